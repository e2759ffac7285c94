"""Integers: which values are valid ones, and powers."""

from stackeffect.errors import InvalidNumber


def is_whole(value):
    """Return whether any value is an integer, which True and False are not."""
    return isinstance(value, int) and not isinstance(value, bool)


def is_between(value, least, most):
    """Return whether any value is an integer from the least to the most."""
    return is_whole(value) and least <= value <= most


def check_between(value, least, most):
    """Raise InvalidNumber unless the value is an integer from the least to the most."""
    if not is_between(value, least, most):
        raise InvalidNumber(value)


def power(base, exponent):
    """Return the base to the power of an exponent from 0."""
    product = 1
    for step in range(exponent):
        product *= base
    return product
