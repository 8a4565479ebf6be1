"""Manners, and the rods that they have."""

from beadrods.errors import NoManner, NoNumber
from beadrods.wholes import is_whole

# The bounds of a manner's parts: upper beads, what each is worth, lower beads, base.
LEAST_PARTS = (0, 1, 0, 2)
MOST_PARTS = (3, 16, 12, 16)
MOST_WORTH = 9999


def is_manner(thing):
    if not isinstance(thing, tuple) or len(thing) != len(MOST_PARTS):
        return False
    # The bounds are asked for ahead of the rods, so that no thing makes a great many of them.
    for part, least, most in zip(thing, LEAST_PARTS, MOST_PARTS):
        if not is_whole(part, least, most):
            return False
    return has_all_digits(thing)


def has_all_digits(manner):
    worths = [rod_worth(manner, rod) for rod in all_rods(manner)]
    return all([digit in worths for digit in range(manner[3])])


def check_manner(thing):
    if not is_manner(thing):
        raise NoManner("this is no manner")


def is_rod(manner, thing):
    if not isinstance(thing, tuple) or len(thing) != 2:
        return False
    return is_whole(thing[0], 0, manner[0]) and is_whole(thing[1], 0, manner[2])


# The rods come rising, and what is told of them in order rests on that.
def all_rods(manner):
    rods = []
    for upper in range(manner[0] + 1):
        for lower in range(manner[2] + 1):
            rods.append((upper, lower))
    return rods


def rod_worth(manner, rod):
    return rod[0] * manner[1] + rod[1]


def rods_with(manner, worth):
    return [rod for rod in all_rods(manner) if rod_worth(manner, rod) == worth]


def rods_for(manner, worth):
    check_manner(manner)
    if not is_whole(worth, 0, MOST_WORTH):
        raise NoNumber("a worth is a whole number from 0 to 9999")
    return rods_with(manner, worth)


# No refusal is told of this one or of fewest_beads: so manners somewhat beyond the bounds are taken too.
def most_on_rod(manner):
    return max([rod_worth(manner, rod) for rod in all_rods(manner)], default=None)


def counts(manner):
    check_manner(manner)
    told = [0] * (most_on_rod(manner) + 1)
    for rod in all_rods(manner):
        told[rod_worth(manner, rod)] += 1
    return told


def beads(rod):
    return rod[0] + rod[1]


# Of several that are the fewest, min keeps the first; a worth that no rod has is answered by None.
def fewest_beads(manner, worth):
    return min(rods_with(manner, worth), key=beads, default=None)
