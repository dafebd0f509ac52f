"""What kind of thing any value is."""


def is_whole(value):
    """Whether a value is an integer; a bool is none."""
    return isinstance(value, int) and not isinstance(value, bool)


def is_below(value, bound):
    """Whether a value is an integer from 0 on and below a bound."""
    return is_whole(value) and 0 <= value < bound


def is_sequence(value):
    """Whether a value is a list or a tuple."""
    return isinstance(value, (list, tuple))


def is_name(value):
    """Whether a value can be the name of a mode."""
    if not isinstance(value, str) or len(value) > 4 or value == "also":
        return False
    # Without isascii, lower-case letters of other alphabets would pass.
    return value.isascii() and value.isalpha() and value.islower()
