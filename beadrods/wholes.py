"""Whole numbers, told apart from truths."""


# Python holds True and False to be ints, the document does not: so they are asked for first.
def is_whole(thing, least, most):
    if isinstance(thing, bool) or not isinstance(thing, int):
        return False
    return least <= thing <= most
