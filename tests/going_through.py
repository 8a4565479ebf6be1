"""What the tests hold the program against: all rods and all settings gone through, by no means of its own."""

from itertools import product

# Ordinary manners, and manners at the bounds of each of their parts.
MANNERS = [
    (1, 5, 4, 10), (2, 5, 5, 10), (0, 1, 9, 10), (3, 4, 3, 16),
    (0, 16, 1, 2), (3, 1, 0, 2), (3, 16, 12, 13), (3, 1, 12, 16), (1, 1, 0, 2), (1, 3, 2, 2),
]

# Each of these is no manner, nor a setting of one, nor a number of any kind that is asked for.
STRANGE = [
    None, True, False, "", "a", "(1, 5, 4, 10)", "1", [], (), [[]], ((),), [None], (None,), ("a", "b"),
    [1, 5, 4, 10], [(0, 0)], ([0, 0],), (True, False), ((True, 0),), (True, 5, 4, 10), ((((((((((1,),),),),),),),),),),
    [[[[[[[[[["a"]]]]]]]]]], ((1, 2, 3),), (0, (0, 0)), 10 ** 5000, -10 ** 5000, "1" * 5000,
]


def rods_of(manner):
    return list(product(range(manner[0] + 1), range(manner[2] + 1)))


def worth_of(manner, rod):
    return rod[0] * manner[1] + rod[1]


def is_manner_by_hand(manner):
    upper, each, lower, base = manner
    if not (0 <= upper <= 3 and 1 <= each <= 16 and 0 <= lower <= 12 and 2 <= base <= 16):
        return False
    return set(range(base)) <= {worth_of(manner, rod) for rod in rods_of(manner)}


def number_by_hand(manner, setting):
    places = reversed(range(len(setting)))
    return sum(worth_of(manner, rod) * manner[3] ** place for rod, place in zip(setting, places))


def beads_by_hand(setting):
    return sum(upper + lower for upper, lower in setting)


def settings_by_number(manner, rods):
    found = {}
    for setting in product(rods_of(manner), repeat=rods):
        found.setdefault(number_by_hand(manner, setting), []).append(setting)
    return found


def digits_by_hand(base, rods, number):
    return [number // base ** place % base for place in reversed(range(rods))]
