"""Whole numbers, as values and as they are written."""


def is_number(value):
    """Return True if the value is a whole number, otherwise False."""
    return isinstance(value, int) and not isinstance(value, bool)


def is_whole(value, least, most):
    """Return True if the value is a whole number within the bounds."""
    return is_number(value) and least <= value <= most


def told_number(text, least, most):
    """Return the number within the bounds that is written so, or None."""
    for number in range(least, most + 1):
        if text == str(number):
            return number
    return None
