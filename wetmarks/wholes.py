"""What a whole number is."""


def is_whole(thing):
    """Whether a thing, whatever it is, is a whole number; True and False are none."""
    return isinstance(thing, int) and not isinstance(thing, bool)


def is_from(low, thing):
    """Whether a thing, whatever it is, is a whole number from low on."""
    return is_whole(thing) and thing >= low


def is_below(many, thing):
    """Whether a thing, whatever it is, is a whole number from 0 on and below many."""
    return is_from(0, thing) and thing < many
