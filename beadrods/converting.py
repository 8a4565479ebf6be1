"""Digits, and settings led to other manners."""

from beadrods.errors import NoNumber
from beadrods.manners import check_manner
from beadrods.settings import check_number, check_rods, check_setting, number_on, plain_rods
from beadrods.wholes import is_whole

LEAST_BASE = 2
MOST_BASE = 16


def check_base(base):
    if not is_whole(base, LEAST_BASE, MOST_BASE):
        raise NoNumber("a base is a whole number from 2 to 16")


def digits_of(base, number):
    check_base(base)
    check_number(number)
    digits = [number % base]
    left = number // base
    while left > 0:
        digits.insert(0, left % base)
        left = left // base
    return digits


# The bound is asked for digit by digit, so that no list of a great many digits makes a great number.
def number_of(base, digits):
    check_base(base)
    if not isinstance(digits, list) or not digits:
        raise NoNumber("digits are a list of one or more")
    number = 0
    for digit in digits:
        if not is_whole(digit, 0, base - 1):
            raise NoNumber("a digit is a whole number from 0 to base less 1")
        number = number * base + digit
        check_number(number)
    return number


# The number can be above 99999, and is then too great for the rods, and no wrong number.
def converted(one, other, setting, rods):
    check_manner(one)
    check_manner(other)
    check_setting(one, setting)
    check_rods(rods)
    return plain_rods(other, rods, number_on(one, setting))
