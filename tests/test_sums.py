"""[4.1], [4.2], [4.3], [2.1], [0.2] (c) and [0.3]: sums, products and quotients."""

import unittest
from itertools import product

from beadrods import sums
from beadrods.errors import NoManner, NoNumber, NoSetting, TooGreat
from going_through import (
    FEW_MANNERS, MANNERS, NO_MANNERS, NO_NUMBERS, NO_ROD_NUMBERS, NO_SETTINGS, SOROBAN, SUANPAN, digits_by_hand,
    fewest_by_hand, number_by_hand, plain_by_hand, rods_of, some_numbers, some_settings, worth_of,
)

# A manner whose four full rods have the number 142800.
GREAT = (3, 16, 12, 13)
ASKED_OF_SETTINGS = ["adding", "added", "less", "taking", "taken"]
NO_DIVISORS = NO_NUMBERS + [0]


# Rods are held as worths here; None stands for too great.
def adding_by_hand(manner, setting, number):
    base, rods = manner[3], len(setting)
    if number >= base ** rods:
        return None
    worths = [worth_of(manner, rod) for rod in setting]
    told = []
    for place, digit in enumerate(digits_by_hand(base, rods, number)):
        several = []
        while digit:
            if place < 0:
                return None
            digit, worths[place] = divmod(worths[place] + digit, base)
            several.insert(0, (place, fewest_by_hand(manner, worths[place])))
            place -= 1
        told += several
    return told


def taking_by_hand(manner, setting, number):
    base, rods = manner[3], len(setting)
    if number > number_by_hand(manner, setting):
        return None
    worths = [worth_of(manner, rod) for rod in setting]
    told = []
    for place, digit in enumerate(digits_by_hand(base, rods, number)):
        several = []
        while digit:
            borrowed = 1 if worths[place] < digit else 0
            worths[place] += borrowed * base - digit
            several.insert(0, (place, fewest_by_hand(manner, worths[place])))
            digit = borrowed
            place -= 1
        told += several
    return told


def behind(setting, changes):
    rods = list(setting)
    for rod, fresh in changes:
        rods[rod] = fresh
    return tuple(rods)


def settings_of_all_lengths(manner, most=25):
    return [setting for rods in (1, 2, 3, 4) for setting in some_settings(manner, rods, most)]


def small_settings(manner, most=25):
    each = [rod for rod in rods_of(manner) if worth_of(manner, rod) < manner[3]]
    told = [(rod,) for rod in each]
    for rods in (2, 3, 4):
        many = len(each) ** rods
        for index in sorted({index * 15485863 % many for index in range(most)}):
            told.append(tuple(each[index // len(each) ** place % len(each)] for place in range(rods)))
    return told


class Adding(unittest.TestCase):
    def check_number(self, manner, setting, number):
        about = (manner, setting, number)
        expected = adding_by_hand(manner, setting, number)
        if expected is None:
            for ask in (sums.adding, sums.added):
                with self.assertRaises(TooGreat, msg=about):
                    ask(manner, setting, number)
            return
        self.assertEqual(sums.adding(manner, setting, number), expected, about)
        there = sums.added(manner, setting, number)
        self.assertEqual(there, behind(setting, expected), about)
        self.assertEqual(number_by_hand(manner, there), number_by_hand(manner, setting) + number, about)

    def test_all_numbers_on_one_and_two_rods(self):
        for manner in FEW_MANNERS:
            for rods, most in ((1, 100), (2, 20)):
                for setting in some_settings(manner, rods, most):
                    for number in range(manner[3] ** rods + 2):
                        self.check_number(manner, setting, number)

    def test_some_numbers_on_all_lengths(self):
        for manner in MANNERS + [(2, 5, 5, 2), (3, 16, 12, 2)]:
            for setting in settings_of_all_lengths(manner):
                for number in some_numbers(manner[3] ** len(setting) - 2):
                    self.check_number(manner, setting, number)

    def test_nought_makes_no_change(self):
        for manner in MANNERS:
            for setting in settings_of_all_lengths(manner):
                self.assertEqual(sums.adding(manner, setting, 0), [])
                self.assertEqual(sums.added(manner, setting, 0), setting)

    def test_digits_the_great_ones_first(self):
        self.assertEqual(sums.adding(SOROBAN, ((0, 0),) * 3, 123), [(0, (0, 1)), (1, (0, 2)), (2, (0, 3))])
        self.assertEqual(sums.adding(SOROBAN, ((0, 0),) * 3, 705), [(0, (1, 2)), (2, (1, 0))])

    def test_a_carry_goes_ahead_of_its_rod(self):
        self.assertEqual(sums.adding(SOROBAN, ((0, 1), (0, 4)), 6), [(0, (0, 2)), (1, (0, 0))])
        self.assertEqual(sums.added(SOROBAN, ((0, 1), (0, 4)), 6), ((0, 2), (0, 0)))

    def test_a_carry_over_several_rods(self):
        nines = ((0, 0), (1, 4), (1, 4), (1, 4))
        self.assertEqual(sums.adding(SOROBAN, nines, 1), [(0, (0, 1)), (1, (0, 0)), (2, (0, 0)), (3, (0, 0))])
        # Each digit is done with, carries and all, ahead of the next one.
        self.assertEqual(sums.adding(SOROBAN, ((0, 0), (1, 4), (1, 4)), 11), [
            (0, (0, 1)), (1, (0, 0)), (1, (0, 1)), (2, (0, 0)),
        ])

    def test_a_carry_out_of_the_first_rod(self):
        for setting, number in [(((1, 4),), 1), (((1, 4),) * 4, 1), (((1, 0), (0, 0)), 50), (((0, 1), (1, 4)), 90)]:
            self.check_number(SOROBAN, setting, number)
            with self.assertRaises(TooGreat):
                sums.adding(SOROBAN, setting, number)

    # 10 is a number that one rod has, and yet adding carries.
    def test_a_carry_though_the_rod_has_beads_for_it(self):
        with self.assertRaises(TooGreat):
            sums.adding(SUANPAN, ((1, 4),), 1)

    def test_more_digits_than_rods(self):
        for number in (10, 11, 100, 99999):
            with self.assertRaises(TooGreat):
                sums.adding(SOROBAN, ((0, 0),), number)
        with self.assertRaises(TooGreat):
            sums.added(SOROBAN, ((0, 0),) * 4, 99999)
        with self.assertRaises(TooGreat):
            sums.added((3, 4, 3, 16), ((0, 0),) * 4, 99999)

    def test_rods_worth_the_base_and_more_ahead_of_the_place(self):
        self.assertEqual(sums.adding(SUANPAN, ((2, 5), (0, 0)), 3), [(1, (0, 3))])
        self.assertEqual(sums.added(SUANPAN, ((2, 5), (0, 0)), 3), ((2, 5), (0, 3)))
        self.assertEqual(sums.adding(SUANPAN, ((0, 0), (2, 0), (1, 4)), 1), [(0, (0, 1)), (1, (0, 1)), (2, (0, 0))])
        with self.assertRaises(TooGreat):
            sums.adding(SUANPAN, ((2, 0), (1, 4)), 1)

    def test_rods_worth_the_base_and_more_at_the_place(self):
        self.assertEqual(sums.adding(SUANPAN, ((0, 0), (2, 5)), 7), [(0, (0, 2)), (1, (0, 2))])
        self.assertEqual(sums.adding(SUANPAN, ((0, 0), (2, 0), (0, 0)), 10), [(0, (0, 1)), (1, (0, 1))])
        with self.assertRaises(TooGreat):
            sums.adding(SUANPAN, ((2, 0), (0, 0)), 10)

    def test_rods_that_are_not_plain_stay_where_the_digit_is_nought(self):
        self.assertEqual(sums.added(SUANPAN, ((0, 5), (0, 5), (0, 0)), 1), ((0, 5), (0, 5), (0, 1)))
        self.assertEqual(sums.added(SUANPAN, ((0, 5), (0, 5), (0, 0)), 10), ((0, 5), (1, 1), (0, 0)))

    # What is carried is the base here, so the rod in the middle becomes what it was, and that is told too.
    def test_a_carry_that_comes_to_the_same_rod_again(self):
        self.assertEqual(sums.adding((2, 5, 5, 2), ((0, 0), (0, 0), (0, 3)), 1), [
            (0, (0, 1)), (1, (0, 0)), (2, (0, 0)),
        ])

    def test_a_changed_list_is_told_as_before(self):
        told = sums.adding(SOROBAN, ((0, 1), (0, 4)), 6)
        told.reverse()
        told.append("more")
        self.assertEqual(sums.adding(SOROBAN, ((0, 1), (0, 4)), 6), [(0, (0, 2)), (1, (0, 0))])


class Less(unittest.TestCase):
    def test_some_numbers_on_all_lengths(self):
        for manner in MANNERS:
            for setting in settings_of_all_lengths(manner):
                whole = number_by_hand(manner, setting)
                for number in some_numbers(whole):
                    self.check_number(manner, setting, whole, number)

    def check_number(self, manner, setting, whole, number):
        left = whole - number
        if 0 <= left < manner[3] ** len(setting):
            told = sums.less(manner, setting, number)
            self.assertEqual(told, plain_by_hand(manner, len(setting), left), (manner, setting, number))
            self.assertEqual(number_by_hand(manner, told), left)
        else:
            with self.assertRaises(TooGreat, msg=(manner, setting, number)):
                sums.less(manner, setting, number)

    def test_just_all_and_one_more(self):
        for manner in MANNERS:
            for setting in settings_of_all_lengths(manner):
                whole = number_by_hand(manner, setting)
                if whole < 99999:
                    self.assertEqual(sums.less(manner, setting, whole), ((0, 0),) * len(setting))
                    with self.assertRaises(TooGreat):
                        sums.less(manner, setting, whole + 1)

    def test_it_is_plain_also_where_nothing_is_taken(self):
        self.assertEqual(sums.less(SUANPAN, ((0, 5), (0, 5)), 0), ((1, 0), (1, 0)))
        self.assertEqual(sums.less(SUANPAN, ((0, 0), (2, 5)), 0), ((0, 1), (1, 0)))
        self.assertEqual(sums.less(SUANPAN, ((0, 0), (2, 5)), 7), ((0, 0), (1, 3)))

    def test_the_plain_one_has_more_digits_than_rods(self):
        with self.assertRaises(TooGreat):
            sums.less(SUANPAN, ((2, 5),), 5)
        self.assertEqual(sums.less(SUANPAN, ((2, 5),), 6), ((1, 4),))

    # What is left is beyond 99999, and yet nothing that was handed in is a wrong number.
    def test_what_is_left_beyond_99999(self):
        for number in (0, 1, 42800, 42801, 99999):
            with self.assertRaises(TooGreat):
                sums.less(GREAT, ((3, 12),) * 4, number)

    def test_99999_from_more_and_from_less(self):
        # 48 * 13 ** 3 is 105456.
        self.assertEqual(sums.less(GREAT, ((3, 0), (0, 0), (0, 0), (0, 0)), 99999), plain_by_hand(GREAT, 4, 5457))
        with self.assertRaises(TooGreat):
            sums.less(SOROBAN, ((1, 4),) * 4, 99999)


class Product(unittest.TestCase):
    def by_hand(self, manner, rods, one, other):
        base = manner[3]
        if one * other >= base ** rods:
            return None
        return [plain_by_hand(manner, rods, 0)] + [
            plain_by_hand(manner, rods, one // base ** place * base ** place * other) for place in reversed(range(rods))
        ]

    def check_numbers(self, manner, rods, one, other):
        about = (manner, rods, one, other)
        expected = self.by_hand(manner, rods, one, other)
        if expected is None:
            with self.assertRaises(TooGreat, msg=about):
                sums.product(manner, rods, one, other)
        else:
            told = sums.product(manner, rods, one, other)
            self.assertEqual(told, expected, about)
            self.assertEqual(number_by_hand(manner, told[-1]), one * other, about)

    def test_all_small_numbers(self):
        for manner in FEW_MANNERS:
            for rods in (1, 2):
                most = min(manner[3] ** rods + 2, 25)
                for one, other in product(range(most), repeat=2):
                    self.check_numbers(manner, rods, one, other)

    def test_some_numbers_on_all_lengths(self):
        for manner in MANNERS:
            for rods in (1, 2, 3, 4):
                several = some_numbers(manner[3] ** rods // 3 + 1)
                for one, other in product(several, repeat=2):
                    self.check_numbers(manner, rods, one, other)

    def test_written_out(self):
        nought = ((0, 0), (0, 0), (0, 0))
        self.assertEqual(sums.product(SOROBAN, 3, 12, 34), [
            nought, nought, ((0, 3), (0, 4), (0, 0)), ((0, 4), (0, 0), (1, 3)),
        ])

    def test_noughts(self):
        nought = ((0, 0), (0, 0), (0, 0))
        self.assertEqual(sums.product(SOROBAN, 3, 0, 99999), [nought] * 4)
        self.assertEqual(sums.product(SOROBAN, 3, 101, 7), [
            nought, ((1, 2), (0, 0), (0, 0)), ((1, 2), (0, 0), (0, 0)), ((1, 2), (0, 0), (1, 2)),
        ])
        self.assertEqual(sums.product(SOROBAN, 1, 0, 0), [((0, 0),), ((0, 0),)])

    # What is left of the great digits is at the first rod, so there are as many settings as rods, and one.
    def test_more_digits_than_rods(self):
        self.assertEqual(sums.product(SOROBAN, 1, 99999, 0), [((0, 0),)] * 2)
        self.assertEqual(sums.product(SOROBAN, 4, 99999, 0), [((0, 0),) * 4] * 5)
        for one, other in [(99999, 1), (1, 99999), (99999, 99999), (10, 1), (1, 10)]:
            with self.assertRaises(TooGreat):
                sums.product(SOROBAN, 1, one, other)

    def test_just_not_too_great_and_just_too_great(self):
        self.assertEqual(sums.product(SOROBAN, 4, 9999, 1)[-1], ((1, 4),) * 4)
        self.assertEqual(sums.product(SOROBAN, 4, 1, 9999)[-1], ((1, 4),) * 4)
        for one, other in [(100, 100), (10000, 1), (1, 10000), (2, 5000), (5000, 2)]:
            with self.assertRaises(TooGreat):
                sums.product(SOROBAN, 4, one, other)
        # Rods of this manner have 15, and yet adding carries.
        with self.assertRaises(TooGreat):
            sums.product(SUANPAN, 1, 3, 5)

    def test_a_changed_list_is_told_as_before(self):
        told = sums.product(SOROBAN, 2, 3, 4)
        before = list(told)
        told.clear()
        self.assertEqual(sums.product(SOROBAN, 2, 3, 4), before)

    def test_no_number(self):
        for thing in NO_NUMBERS:
            for one, other in [(thing, 0), (0, thing), (99999, thing), (thing, 99999), (thing, thing)]:
                with self.assertRaises(NoNumber):
                    sums.product(SOROBAN, 1, one, other)
        for rods in NO_ROD_NUMBERS:
            for one, other in [(0, 0), (99999, 99999), (-1, None)]:
                with self.assertRaises(NoNumber):
                    sums.product(SOROBAN, rods, one, other)

    def test_no_manner_ahead_of_all(self):
        for manner in NO_MANNERS:
            for rods, one, other in [(1, 0, 0), (1, 99999, 99999), (0, 0, 0), (1, -1, 0), (1, 0, None), ([], [], [])]:
                with self.assertRaises(NoManner):
                    sums.product(manner, rods, one, other)


class Rest(unittest.TestCase):
    def test_all_lengths(self):
        for manner in MANNERS + FEW_MANNERS:
            for setting in settings_of_all_lengths(manner, 60):
                number = number_by_hand(manner, setting)
                while number >= manner[3] - 1 and number > 0:
                    number -= max(1, number // (manner[3] - 1)) * (manner[3] - 1)
                self.assertEqual(sums.rest(manner, setting), number, (manner, setting))

    def test_it_goes_with_sums(self):
        for manner in FEW_MANNERS:
            for setting in small_settings(manner):
                for number in some_numbers(manner[3] ** len(setting) // 2):
                    whole = number_by_hand(manner, setting) + number
                    if whole < manner[3] ** len(setting):
                        both = sums.rest(manner, setting) + number % (manner[3] - 1)
                        told = sums.rest(manner, sums.added(manner, setting, number))
                        self.assertEqual(told, both % (manner[3] - 1), (manner, setting, number))

    def test_written_out(self):
        self.assertEqual(sums.rest(SOROBAN, ((0, 1), (0, 2), (0, 3))), 6)
        self.assertEqual(sums.rest(SOROBAN, ((1, 4),) * 4), 0)
        self.assertEqual(sums.rest(SUANPAN, ((0, 0), (2, 5))), 6)
        self.assertEqual(sums.rest((0, 1, 1, 2), ((0, 1),) * 3), 0)
        self.assertEqual(sums.rest((1, 1, 1, 3), ((1, 1), (0, 1))), 1)


class IsSmall(unittest.TestCase):
    def test_all_lengths(self):
        for manner in MANNERS + FEW_MANNERS:
            for setting in settings_of_all_lengths(manner, 60):
                expected = all(worth_of(manner, rod) < manner[3] for rod in setting)
                self.assertIs(sums.is_small(manner, setting), expected, (manner, setting))

    def test_each_rod_counts(self):
        for place in range(4):
            setting = [(0, 5)] * 4
            self.assertIs(sums.is_small(SUANPAN, tuple(setting)), True)
            for rod, expected in [((1, 4), True), ((1, 5), False), ((2, 0), False), ((2, 5), False)]:
                setting[place] = rod
                self.assertIs(sums.is_small(SUANPAN, tuple(setting)), expected, (place, rod))


class Taking(unittest.TestCase):
    def check_number(self, manner, setting, number):
        about = (manner, setting, number)
        expected = taking_by_hand(manner, setting, number)
        if expected is None:
            for ask in (sums.taking, sums.taken):
                with self.assertRaises(TooGreat, msg=about):
                    ask(manner, setting, number)
            return
        self.assertEqual(sums.taking(manner, setting, number), expected, about)
        there = sums.taken(manner, setting, number)
        self.assertEqual(there, behind(setting, expected), about)
        self.assertEqual(number_by_hand(manner, there), number_by_hand(manner, setting) - number, about)

    def test_all_numbers_on_small_settings(self):
        for manner in FEW_MANNERS:
            for setting in small_settings(manner, 8):
                if len(setting) <= 2:
                    for number in range(manner[3] ** len(setting) + 2):
                        self.check_number(manner, setting, number)

    def test_some_numbers_on_all_lengths(self):
        for manner in MANNERS + FEW_MANNERS:
            for setting in small_settings(manner):
                for number in some_numbers(number_by_hand(manner, setting)):
                    self.check_number(manner, setting, number)

    def test_digits_the_great_ones_first(self):
        self.assertEqual(sums.taking(SOROBAN, ((1, 4),) * 3, 123), [(0, (1, 3)), (1, (1, 2)), (2, (1, 1))])
        self.assertEqual(sums.taking(SOROBAN, ((1, 4),) * 3, 405), [(0, (1, 0)), (2, (0, 4))])

    def test_borrowing_goes_ahead_of_its_rod(self):
        self.assertEqual(sums.taking(SOROBAN, ((0, 2), (0, 1)), 6), [(0, (0, 1)), (1, (1, 0))])
        self.assertEqual(sums.taken(SOROBAN, ((0, 2), (0, 1)), 6), ((0, 1), (1, 0)))

    def test_borrowing_over_several_rods(self):
        self.assertEqual(sums.taking(SOROBAN, ((0, 1), (0, 0), (0, 0), (0, 0)), 1), [
            (0, (0, 0)), (1, (1, 4)), (2, (1, 4)), (3, (1, 4)),
        ])
        # Each digit is done with, borrowing and all, ahead of the next one.
        self.assertEqual(sums.taking(SOROBAN, ((0, 1), (0, 0), (0, 0)), 11), [
            (0, (0, 0)), (1, (1, 4)), (1, (1, 3)), (2, (1, 4)),
        ])

    def test_nought_makes_no_change(self):
        for manner in MANNERS:
            for setting in small_settings(manner):
                self.assertEqual(sums.taking(manner, setting, 0), [])
                self.assertEqual(sums.taken(manner, setting, 0), setting)

    def test_rods_that_are_not_plain_stay_where_the_digit_is_nought(self):
        self.assertEqual(sums.taken(SUANPAN, ((0, 5), (0, 5), (0, 2)), 1), ((0, 5), (0, 5), (0, 1)))
        self.assertEqual(sums.taken(SUANPAN, ((0, 5), (0, 5), (0, 0)), 1), ((0, 5), (0, 4), (1, 4)))

    def test_just_all_and_one_more(self):
        for manner in MANNERS:
            for setting in small_settings(manner):
                whole = number_by_hand(manner, setting)
                self.assertEqual(number_by_hand(manner, sums.taken(manner, setting, whole)), 0)
                for ask in (sums.taking, sums.taken):
                    with self.assertRaises(TooGreat):
                        ask(manner, setting, whole + 1)

    def test_more_digits_than_rods(self):
        for number in (10, 99999):
            with self.assertRaises(TooGreat):
                sums.taking(SOROBAN, ((1, 4),), number)

    def test_what_is_not_small(self):
        for setting in [((2, 0),), ((1, 5),), ((0, 1), (2, 5)), ((2, 0), (0, 1), (0, 1))]:
            for number in (0, 1, 99999, -1, None, True):
                for ask in (sums.taking, sums.taken):
                    with self.assertRaises(NoSetting):
                        ask(SUANPAN, setting, number)

    def test_a_changed_list_is_told_as_before(self):
        told = sums.taking(SOROBAN, ((0, 2), (0, 1)), 6)
        told.pop()
        self.assertEqual(sums.taking(SOROBAN, ((0, 2), (0, 1)), 6), [(0, (0, 1)), (1, (1, 0))])


class Quotient(unittest.TestCase):
    def by_hand(self, manner, rods, number, by):
        told = []
        for place in reversed(range(rods)):
            often = 0
            while number >= by * manner[3] ** place:
                number -= by * manner[3] ** place
                often += 1
            told.append((often, plain_by_hand(manner, rods, number)))
        return told

    def check_numbers(self, manner, rods, number, by):
        about = (manner, rods, number, by)
        if number >= manner[3] ** rods:
            with self.assertRaises(TooGreat, msg=about):
                sums.quotient(manner, rods, number, by)
            return
        told = sums.quotient(manner, rods, number, by)
        self.assertEqual(told, self.by_hand(manner, rods, number, by), about)
        whole = 0
        for often, _ in told:
            whole = whole * manner[3] + often
        self.assertEqual(divmod(number, by), (whole, number_by_hand(manner, told[-1][1])), about)

    def test_all_small_numbers(self):
        for manner in FEW_MANNERS:
            for rods in (1, 2):
                for number in range(min(manner[3] ** rods + 2, 120)):
                    for by in range(1, 14):
                        self.check_numbers(manner, rods, number, by)

    def test_some_numbers_on_all_lengths(self):
        for manner in MANNERS:
            for rods in (1, 2, 3, 4):
                several = some_numbers(manner[3] ** rods - 2)
                for number, by in product(several, several):
                    if by > 0:
                        self.check_numbers(manner, rods, number, by)

    def test_written_out(self):
        self.assertEqual(sums.quotient(SOROBAN, 3, 408, 12), [
            (0, ((0, 4), (0, 0), (1, 3))), (3, ((0, 0), (0, 4), (1, 3))), (4, ((0, 0), (0, 0), (0, 0))),
        ])

    def test_by_1(self):
        self.assertEqual(sums.quotient(SOROBAN, 2, 37, 1), [(3, ((0, 0), (1, 2))), (7, ((0, 0), (0, 0)))])

    def test_by_more_than_the_number(self):
        plain = ((0, 3), (1, 2))
        for by in (38, 99, 100, 99999):
            self.assertEqual(sums.quotient(SOROBAN, 2, 37, by), [(0, plain), (0, plain)])

    def test_nought(self):
        self.assertEqual(sums.quotient(SOROBAN, 2, 0, 7), [(0, ((0, 0), (0, 0)))] * 2)

    def test_too_great(self):
        for number in (10, 15, 99999):
            for by in (1, 99999):
                with self.assertRaises(TooGreat):
                    sums.quotient(SUANPAN, 1, number, by)

    def test_no_number(self):
        for by in NO_DIVISORS:
            for number in (0, 9, 99999, -1, None):
                with self.assertRaises(NoNumber):
                    sums.quotient(SOROBAN, 1, number, by)
        for number in NO_NUMBERS:
            for by in (1, 0, None):
                with self.assertRaises(NoNumber):
                    sums.quotient(SOROBAN, 1, number, by)
        for rods in NO_ROD_NUMBERS:
            for number, by in [(0, 1), (99999, 1), (-1, 0), (None, None)]:
                with self.assertRaises(NoNumber):
                    sums.quotient(SOROBAN, rods, number, by)

    def test_no_manner_ahead_of_all(self):
        for manner in NO_MANNERS:
            for rods, number, by in [(1, 0, 1), (1, 99999, 1), (0, 0, 1), (1, -1, 1), (1, 0, 0), ([], [], [])]:
                with self.assertRaises(NoManner):
                    sums.quotient(manner, rods, number, by)

    def test_a_changed_list_is_told_as_before(self):
        told = sums.quotient(SOROBAN, 2, 37, 5)
        before = list(told)
        told.reverse()
        told.append("more")
        self.assertEqual(sums.quotient(SOROBAN, 2, 37, 5), before)


class Refusals(unittest.TestCase):
    def asked(self, manner, setting, numbers):
        yield lambda: sums.rest(manner, setting)
        yield lambda: sums.is_small(manner, setting)
        for name, number in product(ASKED_OF_SETTINGS, numbers):
            yield lambda: getattr(sums, name)(manner, setting, number)

    def test_no_manner_ahead_of_all(self):
        for manner in NO_MANNERS:
            for setting in [((0, 0),), None, [[]], ((0, 9),)]:
                for ask in self.asked(manner, setting, [0, 99999, -1, None, [[]]]):
                    with self.assertRaises(NoManner):
                        ask()

    def test_no_setting_ahead_of_no_number_and_too_great(self):
        for setting in NO_SETTINGS:
            for ask in self.asked(SOROBAN, setting, [0, 99999, -1, None, [[]]]):
                with self.assertRaises(NoSetting):
                    ask()

    def test_no_number_ahead_of_too_great(self):
        for name in ASKED_OF_SETTINGS:
            for number in NO_NUMBERS:
                for setting in [((0, 0),), ((1, 4),)]:
                    with self.assertRaises(NoNumber):
                        getattr(sums, name)(SOROBAN, setting, number)

    def test_bounds_are_taken(self):
        for name in ASKED_OF_SETTINGS:
            getattr(sums, name)(SOROBAN, ((0, 0),), 0)
            with self.assertRaises(TooGreat):
                getattr(sums, name)(SOROBAN, ((0, 0),), 99999)


if __name__ == "__main__":
    unittest.main()
