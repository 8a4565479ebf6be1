"""[9.1], [2.1], [0.2] (g) and [0.3]: digits, and settings led to other manners."""

import unittest
from itertools import product

from beadrods.converting import converted, digits_of, number_of
from beadrods.errors import NoManner, NoNumber, NoSetting, TooGreat
from going_through import (
    FEW_MANNERS, MANNERS, NO_MANNERS, NO_NUMBERS, NO_ROD_NUMBERS, NO_SETTINGS, SOROBAN, STRANGE, SUANPAN,
    digits_by_hand, number_by_hand, plain_by_hand, some_numbers, some_settings,
)

# A manner whose four full rods have the number 142800.
GREAT = (3, 16, 12, 13)
BINARY = (0, 1, 1, 2)
NO_BASES = STRANGE + [0, 1, 17, -1, -10, 99999, (10,), [10], "10", True, False]
# No digits of base 10.
NO_DIGITS = [thing for thing in STRANGE if thing != []] + [
    [], (1,), (1, 2), "12", 12, {1: 2}, [-1], [10], [1, 10], [10, 1], [1, -1], [True], [False], [1, True], [None],
    ["1"], [1, "2"], [[1]], [(1,)], [1, [2]], [0, None], [16], [1, 0, 0, 0, 0, 0], [9] * 6, [9] * 5000,
    [1] + [0] * 9999,
]


class DigitsOf(unittest.TestCase):
    def test_written_out(self):
        for base, number, digits in [
            (10, 0, [0]), (2, 0, [0]), (16, 0, [0]), (10, 9, [9]), (10, 10, [1, 0]), (10, 305, [3, 0, 5]),
            (10, 99999, [9] * 5), (16, 99999, [1, 8, 6, 9, 15]), (16, 255, [15, 15]), (16, 256, [1, 0, 0]),
            (2, 99999, [1, 1, 0, 0, 0, 0, 1, 1, 0, 1, 0, 0, 1, 1, 1, 1, 1]), (2, 1, [1]), (2, 2, [1, 0]),
            (2, 5, [1, 0, 1]), (3, 26, [2, 2, 2]), (3, 27, [1, 0, 0, 0]),
        ]:
            self.assertEqual(digits_of(base, number), digits)
            self.assertEqual(number_of(base, digits), number)

    def test_powers_and_one_less(self):
        for base in range(2, 17):
            power, place = 1, 0
            while power <= 99999:
                self.assertEqual(digits_of(base, power), [1] + [0] * place)
                self.assertEqual(digits_of(base, power - 1), [base - 1] * place or [0])
                power, place = power * base, place + 1

    def test_digits_make_their_number_again(self):
        for base in range(2, 17):
            for number in sorted(set(range(300)) | set(some_numbers(99999)) | set(range(0, 100000, 997))):
                digits = digits_of(base, number)
                self.assertEqual(sum(digit * base ** at for at, digit in enumerate(reversed(digits))), number)
                self.assertTrue(all(0 <= digit < base for digit in digits))
                self.assertTrue(digits[0] > 0 or digits == [0])
                self.assertEqual(number_of(base, digits), number)

    def test_no_number(self):
        for number in NO_NUMBERS:
            for base in (2, 10, 16, 1, None):
                with self.assertRaises(NoNumber):
                    digits_of(base, number)
        for base in NO_BASES:
            for number in (0, 1, 99999, -1, None):
                with self.assertRaises(NoNumber):
                    digits_of(base, number)

    def test_a_changed_list_is_told_as_before(self):
        told = digits_of(10, 305)
        told.reverse()
        told.append("more")
        self.assertEqual(digits_of(10, 305), [3, 0, 5])
        digits_of(10, 0).append(1)
        self.assertEqual(digits_of(10, 0), [0])


class NumberOf(unittest.TestCase):
    def test_noughts_ahead(self):
        for digits, number in [([0], 0), ([0, 0], 0), ([0, 7], 7), ([0, 0, 1, 0], 10), ([0] * 5000 + [4, 2], 42)]:
            self.assertEqual(number_of(10, digits), number)

    def test_just_not_too_great(self):
        for base in range(2, 17):
            digits = digits_of(base, 99999)
            self.assertEqual(number_of(base, digits), 99999)
            self.assertEqual(number_of(base, [0, 0] + digits), 99999)
            # 17 places are enough in every base; noughts ahead are allowed.
            more = digits_by_hand(base, 17, 100000)
            for wrong in (more, digits + [0], [1] + digits):
                with self.assertRaises(NoNumber, msg=(base, wrong)):
                    number_of(base, wrong)

    def test_digits_as_great_as_the_base(self):
        for base in range(2, 17):
            self.assertEqual(number_of(base, [base - 1]), base - 1)
            for wrong in ([base], [0, base], [base, 0], [-1], [0, -1], [1, -1]):
                with self.assertRaises(NoNumber):
                    number_of(base, wrong)

    def test_no_number(self):
        for digits in NO_DIGITS:
            for base in (10, 1, None):
                with self.assertRaises(NoNumber):
                    number_of(base, digits)
        for base in NO_BASES:
            for digits in ([0], [1], [], None, (0,)):
                with self.assertRaises(NoNumber):
                    number_of(base, digits)

    def test_what_is_handed_in_stays_as_it_was(self):
        for digits in ([0, 0, 3, 0, 5], [0], [9] * 5):
            before = list(digits)
            number_of(10, digits)
            self.assertEqual(digits, before)
        for digits in ([1, 10, 2], [9] * 7, [1, None]):
            before = list(digits)
            with self.assertRaises(NoNumber):
                number_of(10, digits)
            self.assertEqual(digits, before)


class Converted(unittest.TestCase):
    def check_setting(self, one, other, setting, rods):
        number = number_by_hand(one, setting)
        about = (one, other, setting, rods)
        if number >= other[3] ** rods:
            with self.assertRaises(TooGreat, msg=about):
                converted(one, other, setting, rods)
            return
        told = converted(one, other, setting, rods)
        self.assertEqual(told, plain_by_hand(other, rods, number), about)
        self.assertEqual(number_by_hand(other, told), number, about)

    def test_all_manners_and_lengths(self):
        for one, other in product(MANNERS + [BINARY, (1, 1, 1, 3)], repeat=2):
            for length in (1, 2, 3, 4):
                for setting in some_settings(one, length, 6):
                    for rods in (1, 2, 3, 4):
                        self.check_setting(one, other, setting, rods)

    def test_few_beads_counting(self):
        for one, other in product(FEW_MANNERS, repeat=2):
            for length in (1, 2, 3, 4):
                for last in some_settings(one, 1, 100):
                    for rods in (1, 2, 3, 4):
                        self.check_setting(one, other, ((0, 0),) * (length - 1) + last, rods)

    def test_written_out(self):
        for one, other, setting, rods, told in [
            (SUANPAN, SOROBAN, ((0, 0), (2, 5)), 2, ((0, 1), (1, 0))),
            (SUANPAN, SOROBAN, ((2, 5),), 2, ((0, 1), (1, 0))),
            (SOROBAN, SUANPAN, ((0, 1), (1, 0)), 3, ((0, 0), (0, 1), (1, 0))),
            (SOROBAN, BINARY, ((0, 1), (0, 1)), 4, ((0, 1), (0, 0), (0, 1), (0, 1))),
            (BINARY, SOROBAN, ((0, 1), (0, 0), (0, 1), (0, 1)), 2, ((0, 1), (0, 1))),
            (SOROBAN, (3, 4, 3, 16), ((0, 2), (1, 0), (1, 0)), 2, ((3, 3), (3, 3))),
            (SUANPAN, SUANPAN, ((0, 5), (0, 5)), 2, ((1, 0), (1, 0))),
        ]:
            self.assertEqual(converted(one, other, setting, rods), told)

    def test_just_not_too_great_and_just_too_great(self):
        self.assertEqual(converted(SOROBAN, BINARY, ((0, 1), (1, 0)), 4), ((0, 1),) * 4)
        for rods in (1, 2, 3):
            with self.assertRaises(TooGreat):
                converted(SOROBAN, BINARY, ((0, 1), (1, 0)), rods)
        with self.assertRaises(TooGreat):
            converted(SOROBAN, BINARY, ((0, 1), (1, 1)), 4)
        with self.assertRaises(TooGreat):
            converted(SUANPAN, SUANPAN, ((2, 0),), 1)

    # The number is beyond 99999, and yet nothing that was handed in is a wrong number.
    def test_numbers_beyond_99999(self):
        for other in MANNERS:
            for rods in (1, 2, 3, 4):
                with self.assertRaises(TooGreat):
                    converted(GREAT, other, ((3, 12),) * 4, rods)


class Refusals(unittest.TestCase):
    def test_no_manner_of_the_one_ahead_of_all(self):
        for thing in NO_MANNERS:
            for other, setting, rods in product([SOROBAN, None, (1, 5, 3, 10)], [((0, 0),), None, [[]]], [1, 0, None]):
                with self.assertRaises(NoManner):
                    converted(thing, other, setting, rods)

    def test_no_manner_of_the_other_ahead_of_no_setting(self):
        for thing in NO_MANNERS:
            for setting, rods in product([((0, 0),), ((2, 0),), None, [[]]], [1, 0, None, [[]]]):
                with self.assertRaises(NoManner):
                    converted(SOROBAN, thing, setting, rods)

    def test_no_setting_ahead_of_no_number(self):
        for setting in NO_SETTINGS:
            for other, rods in product([SOROBAN, SUANPAN, BINARY], [1, 4, 0, 5, None, True]):
                with self.assertRaises(NoSetting):
                    converted(SOROBAN, other, setting, rods)

    # Each is a setting of the other manner alone.
    def test_settings_are_those_of_the_one(self):
        with self.assertRaises(NoSetting):
            converted(SOROBAN, SUANPAN, ((2, 5),), 2)
        with self.assertRaises(NoSetting):
            converted(BINARY, SOROBAN, ((1, 0),), 2)
        self.assertEqual(converted(SUANPAN, SOROBAN, ((2, 0),), 2), ((0, 1), (0, 0)))

    def test_no_number_ahead_of_too_great(self):
        for rods in NO_ROD_NUMBERS:
            for setting in [((0, 0),), ((1, 4),) * 4]:
                with self.assertRaises(NoNumber):
                    converted(SOROBAN, BINARY, setting, rods)


if __name__ == "__main__":
    unittest.main()
