"""Integers, which truths are not, and spans of them."""

from roundpost.errors import BadCount


def is_whole(thing):
    """Whether it is an integer."""
    return isinstance(thing, int) and not isinstance(thing, bool)


def is_count(thing, least, most):
    """Whether it is an integer from least to most."""
    return is_whole(thing) and least <= thing <= most


def need_count(count, least, most):
    """Raises BadCount for what is no integer from least to most."""
    if not is_count(count, least, most):
        raise BadCount(f"this is no integer from {least} to {most}")
