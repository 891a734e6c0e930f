"""Whole numbers, told from all other things."""


# A truth is an int to Python, but no whole number here.
def is_whole(thing):
    return isinstance(thing, int) and not isinstance(thing, bool)


def is_between(thing, least, most):
    return is_whole(thing) and least <= thing <= most


def is_opinion(thing):
    return is_between(thing, 0, 1)
