"""What kind a thing handed in is, whatever it is."""


def is_number(thing, first, last):
    """Whether it is a whole number from first to last; True and False are none."""
    return type(thing) is int and first <= thing <= last


def is_list(thing):
    """Whether it may stand where a list is told to be handed in: a tuple may, too."""
    return type(thing) in (list, tuple)


def is_tuple(thing, many):
    """Whether it is a tuple of so many parts."""
    return type(thing) is tuple and len(thing) == many
