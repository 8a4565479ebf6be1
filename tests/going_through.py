"""What the tests hold the program against: all rods and all settings gone through, by no means of its own."""

from itertools import product

SOROBAN = (1, 5, 4, 10)
SUANPAN = (2, 5, 5, 10)

# Ordinary manners, and manners at the bounds of each of their parts.
MANNERS = [
    (1, 5, 4, 10), (2, 5, 5, 10), (0, 1, 9, 10), (3, 4, 3, 16),
    (0, 16, 1, 2), (3, 1, 0, 2), (3, 16, 12, 13), (3, 1, 12, 16), (1, 1, 0, 2), (1, 3, 2, 2),
]

# Ordinary ones again, and two of so few beads that all of their settings can be gone through.
FEW_MANNERS = [SOROBAN, SUANPAN, (0, 1, 9, 10), (3, 4, 3, 16), (1, 1, 1, 3), (0, 1, 1, 2)]

# Each of these is no manner, nor a setting of one, nor a number of any kind that is asked for, nor a move.
STRANGE = [
    None, True, False, "", "a", "(1, 5, 4, 10)", "1", [], (), [[]], ((),), [None], (None,), ("a", "b"),
    [1, 5, 4, 10], [(0, 0)], ([0, 0],), (True, False), ((True, 0),), (True, 5, 4, 10), ((((((((((1,),),),),),),),),),),
    [[[[[[[[[["a"]]]]]]]]]], ((1, 2, 3),), (0, (0, 0)), 10 ** 5000, -10 ** 5000, "1" * 5000,
]

NO_MANNERS = STRANGE + [[1, 5, 4, 10], (1, 5, 4), (1, 5, 4, 10, 0), (1, 5, 3, 10), (True, 5, 4, 10), (1, 5, 4, 17)]

# No settings of SOROBAN.
NO_SETTINGS = STRANGE + [
    [(0, 0)], ([0, 0],), ((0, 0), [0, 0]), ((0, 0),) * 5, ((0,),), ((0, 0, 0),), (0, 0), ((2, 0),), ((0, 5),),
    ((-1, 0),), ((0, -1),), ((True, 0),), ((0, False),), ((0, 0), (0, True)), ((0, "0"),), ((0, None),),
    ((0, 0), None), (((0, 0),),), ("00",), ((0, 0), "00"), ((0, 0), (1, 4), (1, 5)), 0, 1, 5,
]

NO_ROD_NUMBERS = STRANGE + [0, 5, -1, (1,), [1], "1"]
NO_NUMBERS = STRANGE + [-1, 100000, (1,), [1], "1"]


def rods_of(manner):
    return list(product(range(manner[0] + 1), range(manner[2] + 1)))


def worth_of(manner, rod):
    return rod[0] * manner[1] + rod[1]


def is_manner_by_hand(manner):
    upper, each, lower, base = manner
    if not (0 <= upper <= 3 and 1 <= each <= 16 and 0 <= lower <= 12 and 2 <= base <= 16):
        return False
    return set(range(base)) <= {worth_of(manner, rod) for rod in rods_of(manner)}


def number_by_hand(manner, setting):
    places = reversed(range(len(setting)))
    return sum(worth_of(manner, rod) * manner[3] ** place for rod, place in zip(setting, places))


def beads_by_hand(setting):
    return sum(upper + lower for upper, lower in setting)


def settings_by_number(manner, rods):
    found = {}
    for setting in product(rods_of(manner), repeat=rods):
        found.setdefault(number_by_hand(manner, setting), []).append(setting)
    return found


def digits_by_hand(base, rods, number):
    return [number // base ** place % base for place in reversed(range(rods))]


def fewest_by_hand(manner, worth):
    return min((sum(rod), rod) for rod in rods_of(manner) if worth_of(manner, rod) == worth)[1]


def plain_by_hand(manner, rods, number):
    return tuple(fewest_by_hand(manner, digit) for digit in digits_by_hand(manner[3], rods, number))


# A few of the many numbers: both ends and beyond, and some between.
def some_numbers(most):
    step = max(1, most // 23)
    picked = {0, 1, most - 1, most, most + 1, 99999} | set(range(0, most, step))
    return sorted(number for number in picked if 0 <= number <= 99999)


# All settings where there are few, else some of them from all over, those that are not plain among them.
def some_settings(manner, rods, most):
    each = rods_of(manner)
    many = len(each) ** rods
    if many <= most:
        return list(product(each, repeat=rods))
    # This prime shares no factor with how many there are, so none comes twice.
    picked = [index * 15485863 % many for index in range(most)]
    return [tuple(each[index // len(each) ** place % len(each)] for place in range(rods)) for index in picked]
