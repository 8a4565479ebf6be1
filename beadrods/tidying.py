"""Settings made tidy, shifted, and held against one another."""

from beadrods.errors import NoNumber, TooGreat
from beadrods.manners import fewest_beads
from beadrods.settings import check_setting, number_on, plain_rods
from beadrods.sums import is_small
from beadrods.wholes import is_whole

MOST_SHIFT = 4


# The number can be above 99999, and is then too great for the rods, and no wrong number.
def tidy(manner, setting):
    check_setting(manner, setting)
    return plain_rods(manner, len(setting), number_on(manner, setting))


# What is not small is never plain; asked first, as tidy refuses numbers that have more digits than rods.
def is_tidy(manner, setting):
    return is_small(manner, setting) and tidy(manner, setting) == setting


def shifted(manner, setting, by):
    check_setting(manner, setting)
    if not is_whole(by, -MOST_SHIFT, MOST_SHIFT):
        raise NoNumber("settings are shifted by a whole number from -4 to 4")
    fresh = (fewest_beads(manner, 0),) * abs(by)
    if by < 0:
        return (fresh + setting)[:len(setting)]
    if number_on(manner, setting[:by]) > 0:
        raise TooGreat("a rod of a worth above 0 would go beyond the first one")
    return (setting + fresh)[by:]


def compare(manner, one, other):
    check_setting(manner, one)
    check_setting(manner, other)
    first = number_on(manner, one)
    second = number_on(manner, other)
    if first == second:
        return 0
    return 1 if first > second else -1
