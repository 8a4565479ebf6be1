"""Settings, and the numbers that they have."""

from beadrods.errors import NoNumber, NoSetting, TooGreat
from beadrods.manners import all_rods, beads, check_manner, fewest_beads, is_rod, rod_worth
from beadrods.wholes import is_whole

MOST_RODS = 4
MOST_NUMBER = 99999


def is_setting(manner, thing):
    check_manner(manner)
    if not isinstance(thing, tuple) or not 1 <= len(thing) <= MOST_RODS:
        return False
    return all([is_rod(manner, part) for part in thing])


def check_setting(manner, thing):
    if not is_setting(manner, thing):
        raise NoSetting("this is no setting of the manner")


def check_rods(rods):
    if not is_whole(rods, 1, MOST_RODS):
        raise NoNumber("a number of rods is a whole number from 1 to 4")


def check_number(number):
    if not is_whole(number, 0, MOST_NUMBER):
        raise NoNumber("a number is a whole number from 0 to 99999")


# In the order in which they are handed in, as the first refusal that is due is the one to be raised.
def check_asked(manner, rods, number):
    check_manner(manner)
    check_rods(rods)
    check_number(number)


def value(manner, setting):
    check_setting(manner, setting)
    return number_on(manner, setting)


# Unlike value this takes no rods at all too: what is ahead of the first rod counts as 0.
def number_on(manner, setting):
    number = 0
    for rod in setting:
        number = number * manner[3] + rod_worth(manner, rod)
    return number


def greatest(manner, rods):
    check_manner(manner)
    check_rods(rods)
    return number_on(manner, full_rods(manner, rods))


def full_rods(manner, rods):
    return ((manner[0], manner[2]),) * rods


# Numbers are taken apart from the last rod on: for each rod that may stand there, what is left to
# the rods ahead. What those could never have is left out, else dead ends would pile up.
def last_rods(manner, ahead, number):
    base = manner[3]
    most = number_on(manner, full_rods(manner, ahead))
    told = []
    for rod in all_rods(manner):
        left = number - rod_worth(manner, rod)
        if left % base == 0 and 0 <= left <= base * most:
            told.append((rod, left // base))
    return told


def all_settings(manner, rods, number):
    check_asked(manner, rods, number)
    ends = {number: [()]}
    for ahead in range(rods - 1, -1, -1):
        ends = longer_ends(manner, ahead, ends)
    return sorted(ends.get(0, []))


def longer_ends(manner, ahead, ends):
    longer = {}
    for number in ends:
        for rod, left in last_rods(manner, ahead, number):
            longer[left] = longer.get(left, []) + [(rod,) + end for end in ends[number]]
    return longer


# Counted without making the settings, of which there may be tens of thousands.
def how_many(manner, rods, number):
    check_asked(manner, rods, number)
    ways = {number: 1}
    for ahead in range(rods - 1, -1, -1):
        ways = longer_ways(manner, ahead, ways)
    return ways.get(0, 0)


def longer_ways(manner, ahead, ways):
    longer = {}
    for number in ways:
        for rod, left in last_rods(manner, ahead, number):
            longer[left] = longer.get(left, 0) + ways[number]
    return longer


def least_beads(manner, rods, number):
    check_asked(manner, rods, number)
    fewest = {number: 0}
    for ahead in range(rods - 1, -1, -1):
        fewest = longer_fewest(manner, ahead, fewest)
    return fewest.get(0)


def longer_fewest(manner, ahead, fewest):
    longer = {}
    for number in fewest:
        for rod, left in last_rods(manner, ahead, number):
            several = fewest[number] + beads(rod)
            longer[left] = min(several, longer.get(left, several))
    return longer


def plain_setting(manner, rods, number):
    check_asked(manner, rods, number)
    return plain_rods(manner, rods, number)


# Unlike plain_setting this refuses no number above 99999 as none, as settings can have such numbers.
def plain_rods(manner, rods, number):
    digits = digits_by_rods(manner[3], rods, number)
    if digits[0] >= manner[3]:
        raise TooGreat("the number has more digits than there are rods")
    return tuple([fewest_beads(manner, digit) for digit in digits])


# A digit for each rod; digits that have no rod stay together in the first one, which is then the base or more.
def digits_by_rods(base, rods, number):
    digits = []
    left = number
    while len(digits) < rods - 1:
        digits.insert(0, left % base)
        left = left // base
    return [left] + digits


def all_beads(manner, setting):
    check_setting(manner, setting)
    return sum([beads(rod) for rod in setting])
