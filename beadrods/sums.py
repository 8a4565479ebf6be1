"""Sums, products and quotients, rod by rod."""

from beadrods.errors import NoNumber, NoSetting, TooGreat
from beadrods.manners import fewest_beads, rod_worth
from beadrods.settings import MOST_NUMBER, check_asked, check_number, check_setting, digits_by_rods, number_on
from beadrods.settings import plain_rods
from beadrods.wholes import is_whole


def adding(manner, setting, number):
    check_setting(manner, setting)
    check_number(number)
    return changes_adding(manner, setting, number)


def added(manner, setting, number):
    return behind_changes(setting, adding(manner, setting, number))


# Unlike adding this takes numbers above 99999 too, as parts of a product can be that great.
def changes_adding(manner, setting, number):
    return changes_by_digits(manner, setting, number, digit_added)


def changes_by_digits(manner, setting, number, digit_changes):
    changes = []
    now = setting
    for rod, digit in enumerate(digits_by_rods(manner[3], len(setting), number)):
        several = digit_changes(manner, now, rod, digit)
        now = behind_changes(now, several)
        changes.extend(several)
    return changes


# What is carried goes the same way as a digit, so 0 is nothing to carry, and below rod 0 there is no rod.
def digit_added(manner, setting, rod, digit):
    if digit == 0:
        return []
    if rod < 0:
        raise TooGreat("there is no rod ahead of the first one")
    whole = rod_worth(manner, setting[rod]) + digit
    ahead = digit_added(manner, setting, rod - 1, whole // manner[3])
    return ahead + [(rod, fewest_beads(manner, whole % manner[3]))]


def behind_changes(setting, changes):
    now = list(setting)
    for rod, fresh in changes:
        now[rod] = fresh
    return tuple(now)


# What is left can be above 99999, and is then too great for the rods, and no wrong number.
def less(manner, setting, number):
    check_setting(manner, setting)
    check_number(number)
    check_enough(manner, setting, number)
    return plain_rods(manner, len(setting), number_on(manner, setting) - number)


def check_enough(manner, setting, number):
    if number > number_on(manner, setting):
        raise TooGreat("the number is more than there is")


def product(manner, rods, one, other):
    check_asked(manner, rods, one)
    check_number(other)
    now = plain_rods(manner, rods, 0)
    told = [now]
    for digit, place in zip(digits_by_rods(manner[3], rods, one), places(manner[3], rods)):
        now = behind_changes(now, changes_adding(manner, now, digit * other * place))
        told.append(now)
    return told


# What 1 is worth at each rod.
def places(base, rods):
    told = [1]
    while len(told) < rods:
        told.insert(0, told[0] * base)
    return told


def rest(manner, setting):
    check_setting(manner, setting)
    return number_on(manner, setting) % (manner[3] - 1)


def is_small(manner, setting):
    check_setting(manner, setting)
    return all([rod_worth(manner, rod) < manner[3] for rod in setting])


def taking(manner, setting, number):
    if not is_small(manner, setting):
        raise NoSetting("a rod is worth the base or more")
    check_number(number)
    check_enough(manner, setting, number)
    return changes_by_digits(manner, setting, number, digit_taken)


# There is always a rod ahead to take 1 from, as the number is no more than there is, and each rod is small.
def digit_taken(manner, setting, rod, digit):
    if digit == 0:
        return []
    left = rod_worth(manner, setting[rod]) - digit
    if left >= 0:
        return [(rod, fewest_beads(manner, left))]
    ahead = digit_taken(manner, setting, rod - 1, 1)
    return ahead + [(rod, fewest_beads(manner, left + manner[3]))]


def taken(manner, setting, number):
    return behind_changes(setting, taking(manner, setting, number))


# Taking away from a plain setting leaves a plain one, so each is told straight from what is left.
def quotient(manner, rods, number, by):
    check_asked(manner, rods, number)
    if not is_whole(by, 1, MOST_NUMBER):
        raise NoNumber("what is divided by is a whole number from 1 to 99999")
    now = plain_rods(manner, rods, number)
    told = []
    for place in places(manner[3], rods):
        left = number_on(manner, now)
        now = plain_rods(manner, rods, left % (by * place))
        told.append((left // (by * place), now))
    return told
