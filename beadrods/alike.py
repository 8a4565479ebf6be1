"""Manners held against one another."""

from beadrods.errors import NoNumber
from beadrods.manners import all_rods, beads, check_manner, counts, most_on_rod, rod_worth
from beadrods.settings import check_rods, how_many
from beadrods.wholes import is_whole

MOST_ASKED = 999


def check_both(one, other):
    check_manner(one)
    check_manner(other)


# Settings of several rods are made rod by rod, with the same base: so one rod tells of all.
def are_alike(one, other):
    check_both(one, other)
    return one[3] == other[3] and counts(one) == counts(other)


def parting(one, other):
    check_both(one, other)
    if one[3] != other[3]:
        raise NoNumber("the manners have unlike bases")
    for number in range(max(most_on_rod(one), most_on_rod(other)) + 1):
        if how_many(one, 1, number) != how_many(other, 1, number):
            return number
    return None


def parts(one, other, rods, number):
    check_both(one, other)
    return how_many(one, rods, number) != how_many(other, rods, number)


def is_single(manner):
    return max(counts(manner)) == 1 and most_on_rod(manner) < manner[3]


def thriftier(one, other, rods, most):
    check_both(one, other)
    check_rods(rods)
    if not is_whole(most, 0, MOST_ASKED):
        raise NoNumber("the greatest number asked of is a whole number from 0 to 999")
    fewest = least_up_to(one, rods, most)
    others = least_up_to(other, rods, most)
    for number in range(most + 1):
        if number in fewest and number in others and fewest[number] > others[number]:
            return number
    return None


# All numbers at once, rod by rod: least_beads of one number after another would go the same ways over again.
def least_up_to(manner, rods, most):
    fewest = {0: 0}
    for place in range(rods):
        fewest = one_rod_more(manner, fewest, most)
    return fewest


def one_rod_more(manner, fewest, most):
    longer = {}
    for ahead in fewest:
        for rod in all_rods(manner):
            number = ahead * manner[3] + rod_worth(manner, rod)
            several = fewest[ahead] + beads(rod)
            if number <= most:
                longer[number] = min(several, longer.get(number, several))
    return longer
