"""What kind of value any value is."""


def is_integer(value):
    """Whether any value is an integer; True and False are none."""
    return isinstance(value, int) and not isinstance(value, bool)
