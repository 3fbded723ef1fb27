"""The refusals. Each stands straight under BeamError and is told with its fields.

What is refused may be of any kind and any size: where it is, the message leaves it to the field.
"""


class BeamError(ValueError):
    """Whatever the program refuses."""


class NoYard(BeamError):
    """What was handed in makes no yard."""


class NoRow(BeamError):
    """The first thing of a list that is no row, or no weighing, of the yard."""

    def __init__(self, at):
        super().__init__(f"number {at}, from 0, is no row or weighing of the yard")
        self.at = at


class NoWorld(BeamError):
    """No world gives the log: rings tear it."""

    def __init__(self, rings):
        super().__init__("no world gives the log: rings tear it")
        self.rings = rings


class NoPan(BeamError):
    """Neither a thing of the yard nor nothing."""

    def __init__(self, pan):
        super().__init__("this is no pan of the yard")
        self.pan = pan


class NoBeam(BeamError):
    """No beam of the yard."""

    def __init__(self, beam):
        super().__init__("this is no beam of the yard")
        self.beam = beam


class NoStep(BeamError):
    """A beam with a step below 0, where none may be."""

    def __init__(self, beam):
        super().__init__(f"the beam {beam} has a step below 0")
        self.beam = beam


class NoAsk(BeamError):
    """What was asked is nothing that can be asked."""


class NoDeed(BeamError):
    """What was asked for cannot be done."""


class NoText(BeamError):
    """The first row of a text that is not as it should be."""

    def __init__(self, row):
        super().__init__(f"row {row} of the text, from 0, is not as it should be")
        self.row = row


class Torn(BeamError):
    """A row behind which no world is left: rings tear the log."""

    def __init__(self, rings):
        super().__init__("this row leaves no world: rings tear the log")
        self.rings = rings


class TooMany(BeamError):
    """More of them than the bound."""

    def __init__(self, bound):
        super().__init__(f"there are more than {bound}")
        self.bound = bound
