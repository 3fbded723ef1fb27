"""Wearybeams: beams that tire by what they tell, and what their words let be."""
