"""What values of any kind are."""


def is_integer(value):
    """Whether any value is an integer: a bool is none."""
    return isinstance(value, int) and not isinstance(value, bool)


def is_number_below(value, many):
    """Whether any value is one of the numbers of so many things, from 0 on."""
    return is_integer(value) and 0 <= value < many
