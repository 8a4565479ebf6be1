"""[8.1], [2.1], [0.2] (f) and [0.3]: settings made tidy, shifted, and held against one another."""

import unittest
from itertools import product

from beadrods.errors import NoManner, NoNumber, NoSetting, TooGreat
from beadrods.tidying import compare, is_tidy, shifted, tidy
from going_through import (
    FEW_MANNERS, MANNERS, NO_MANNERS, NO_SETTINGS, SOROBAN, STRANGE, SUANPAN, number_by_hand, plain_by_hand,
    some_settings,
)

# A manner whose four full rods have the number 142800.
GREAT = (3, 16, 12, 13)
NO_SHIFTS = STRANGE + [-5, 5, -6, 6, 99999, (1,), [0], "0", True, False]


def settings_of_all_lengths(manner, most=60):
    return [setting for rods in (1, 2, 3, 4) for setting in some_settings(manner, rods, most)]


class Tidy(unittest.TestCase):
    def check_setting(self, manner, setting):
        about = (manner, setting)
        number = number_by_hand(manner, setting)
        if number >= manner[3] ** len(setting):
            with self.assertRaises(TooGreat, msg=about):
                tidy(manner, setting)
            self.assertIs(is_tidy(manner, setting), False, about)
            return
        told = tidy(manner, setting)
        self.assertEqual(told, plain_by_hand(manner, len(setting), number), about)
        self.assertEqual(number_by_hand(manner, told), number, about)
        self.assertIs(is_tidy(manner, told), True, about)
        self.assertEqual(tidy(manner, told), told, about)
        self.assertIs(is_tidy(manner, setting), told == setting, about)

    def test_all_lengths(self):
        for manner in MANNERS + FEW_MANNERS:
            for setting in settings_of_all_lengths(manner, 200):
                self.check_setting(manner, setting)

    def test_plain_settings_are_tidy(self):
        for manner in MANNERS + FEW_MANNERS:
            for rods in (1, 2, 3, 4):
                for number in {0, 1, manner[3] - 1, manner[3] ** rods // 3, manner[3] ** rods - 1}:
                    plain = plain_by_hand(manner, rods, number)
                    self.assertEqual(tidy(manner, plain), plain)
                    self.assertIs(is_tidy(manner, plain), True)

    def test_written_out(self):
        for setting, told in [
            (((0, 0), (2, 5)), ((0, 1), (1, 0))), (((0, 5), (0, 5)), ((1, 0), (1, 0))),
            (((0, 0), (1, 5)), ((0, 1), (0, 0))), (((0, 0), (2, 0)), ((0, 1), (0, 0))),
            (((0, 1), (2, 4), (2, 5)), ((0, 2), (1, 0), (1, 0))), (((1, 3), (2, 5), (2, 5)), ((1, 4), (1, 1), (1, 0))),
        ]:
            self.assertEqual(tidy(SUANPAN, setting), told)
            self.assertIs(is_tidy(SUANPAN, setting), False)
            self.assertIs(is_tidy(SUANPAN, told), True)

    def test_the_first_of_those_with_the_fewest_beads(self):
        self.assertEqual(tidy((1, 1, 1, 3), ((1, 0), (0, 1))), ((0, 1), (0, 1)))
        self.assertIs(is_tidy((1, 1, 1, 3), ((1, 0), (0, 1))), False)
        self.assertIs(is_tidy((1, 1, 1, 3), ((0, 1), (0, 1))), True)

    def test_more_digits_than_rods(self):
        for setting in [((2, 0),), ((1, 5),), ((2, 0), (0, 0)), ((1, 4), (2, 0)), ((1, 5), (2, 5)), ((2, 5),) * 4]:
            with self.assertRaises(TooGreat):
                tidy(SUANPAN, setting)
            self.assertIs(is_tidy(SUANPAN, setting), False)
        self.assertEqual(tidy(SUANPAN, ((1, 4), (1, 4))), ((1, 4), (1, 4)))

    # The number is beyond 99999, and yet nothing that was handed in is a wrong number.
    def test_numbers_beyond_99999(self):
        for setting in [((3, 12),) * 4, ((3, 0), (0, 0), (0, 0), (0, 0))]:
            with self.assertRaises(TooGreat):
                tidy(GREAT, setting)
            self.assertIs(is_tidy(GREAT, setting), False)


class Shifted(unittest.TestCase):
    # Each rod goes to its place by itself; None stands for too great.
    def by_hand(self, setting, by):
        fresh = [(0, 0)] * len(setting)
        for at, rod in enumerate(setting):
            if 0 <= at - by < len(setting):
                fresh[at - by] = rod
            elif at - by < 0 and rod != (0, 0):
                return None
        return tuple(fresh)

    def check_setting(self, manner, setting, by):
        expected = self.by_hand(setting, by)
        about = (manner, setting, by)
        if expected is None:
            with self.assertRaises(TooGreat, msg=about):
                shifted(manner, setting, by)
        else:
            self.assertEqual(shifted(manner, setting, by), expected, about)

    def with_empty_rods_ahead(self, setting):
        return [((0, 0),) * empty + setting[empty:] for empty in range(len(setting) + 1)]

    def test_all_lengths(self):
        for manner in MANNERS + FEW_MANNERS:
            for setting in settings_of_all_lengths(manner, 30):
                for begun in self.with_empty_rods_ahead(setting):
                    for by in range(-4, 5):
                        self.check_setting(manner, begun, by)

    def test_numbers_go_with_the_base(self):
        for manner in MANNERS:
            for setting in settings_of_all_lengths(manner, 30):
                for by in range(5):
                    behind = shifted(manner, setting, -by)
                    left = number_by_hand(manner, setting[:max(0, len(setting) - by)])
                    self.assertEqual(number_by_hand(manner, behind), left)
                    self.assertEqual(number_by_hand(manner, shifted(manner, behind, by)), left * manner[3] ** by)

    def test_written_out(self):
        setting = ((0, 0), (1, 2), (0, 3))
        for by, told in [
            (0, setting), (1, ((1, 2), (0, 3), (0, 0))), (-1, ((0, 0), (0, 0), (1, 2))),
            (-2, ((0, 0),) * 3), (-3, ((0, 0),) * 3), (-4, ((0, 0),) * 3),
        ]:
            self.assertEqual(shifted(SOROBAN, setting, by), told)
        for by in (2, 3, 4):
            with self.assertRaises(TooGreat):
                shifted(SOROBAN, setting, by)

    # Rods that are not plain, or are worth the base or more, go as they are.
    def test_rods_go_as_they_are(self):
        self.assertEqual(shifted(SUANPAN, ((0, 0), (2, 5), (0, 5)), 1), ((2, 5), (0, 5), (0, 0)))
        self.assertEqual(shifted(SUANPAN, ((2, 5), (0, 5), (0, 1)), -1), ((0, 0), (2, 5), (0, 5)))
        self.assertEqual(shifted(SUANPAN, ((2, 5), (0, 5)), 0), ((2, 5), (0, 5)))

    def test_by_more_than_there_are_rods(self):
        for rods in (1, 2, 3, 4):
            for by in range(-4, 5):
                self.assertEqual(shifted(SOROBAN, ((0, 0),) * rods, by), ((0, 0),) * rods)
            self.assertEqual(shifted(SOROBAN, ((1, 4),) * rods, -rods), ((0, 0),) * rods)
            for by in range(1, 5):
                with self.assertRaises(TooGreat):
                    shifted(SOROBAN, ((0, 0),) * (rods - 1) + ((0, 1),), max(by, rods))

    def test_no_number(self):
        for by in NO_SHIFTS:
            for setting in [((0, 0),), ((1, 4), (1, 4))]:
                with self.assertRaises(NoNumber):
                    shifted(SOROBAN, setting, by)


class Compare(unittest.TestCase):
    def test_all_lengths(self):
        for manner in MANNERS + FEW_MANNERS:
            for one, other in product(settings_of_all_lengths(manner, 12), repeat=2):
                first, second = number_by_hand(manner, one), number_by_hand(manner, other)
                expected = (first > second) - (first < second)
                self.assertEqual(compare(manner, one, other), expected, (manner, one, other))

    def test_the_same_number_and_unlike_rods(self):
        for one, other in [
            (((0, 5),), ((1, 0),)), (((0, 1), (0, 5)), ((0, 0), (2, 5))), (((2, 5),), ((0, 1), (1, 0))),
            (((0, 0), (2, 0)), ((0, 1), (0, 0))), (((0, 3),), ((0, 0), (0, 0), (0, 0), (0, 3))),
        ]:
            self.assertEqual((compare(SUANPAN, one, other), compare(SUANPAN, other, one)), (0, 0))

    def test_either_way_about(self):
        for great, small in [
            (((0, 1),), ((0, 0),)), (((2, 5),), ((0, 1), (0, 4))), (((0, 1), (0, 0)), ((1, 4),)),
            (((0, 0), (0, 2)), ((0, 0), (0, 0), (0, 1))), (((0, 0), (2, 5)), ((0, 1), (0, 0))),
        ]:
            self.assertEqual((compare(SUANPAN, great, small), compare(SUANPAN, small, great)), (1, -1))

    def test_one_and_the_same(self):
        for manner in MANNERS:
            for setting in settings_of_all_lengths(manner, 20):
                self.assertEqual(compare(manner, setting, setting), 0)

    def test_whole_numbers_and_no_truths(self):
        for one, other in product([((0, 0),), ((0, 1),)], repeat=2):
            self.assertIs(type(compare(SOROBAN, one, other)), int)

    def test_no_setting_of_either(self):
        for thing in NO_SETTINGS:
            for one, other in [(thing, ((0, 0),)), (((0, 0),), thing), (thing, thing)]:
                with self.assertRaises(NoSetting):
                    compare(SOROBAN, one, other)


class Refusals(unittest.TestCase):
    def asked(self, manner, setting):
        yield lambda: tidy(manner, setting)
        yield lambda: is_tidy(manner, setting)
        for by in (0, -1, 4, 5, True, None, [[]]):
            yield lambda: shifted(manner, setting, by)
        for other in (((0, 0),), None, 0, [[]]):
            yield lambda: compare(manner, setting, other)
            yield lambda: compare(manner, other, setting)

    def test_no_manner_ahead_of_all(self):
        for manner in NO_MANNERS:
            for setting in [((0, 0),), ((0, 9),), None, [[]], ((1, 4), (1, 4))]:
                for ask in self.asked(manner, setting):
                    with self.assertRaises(NoManner):
                        ask()

    def test_no_setting_ahead_of_no_number_and_too_great(self):
        for setting in NO_SETTINGS:
            for ask in self.asked(SOROBAN, setting):
                with self.assertRaises(NoSetting):
                    ask()


if __name__ == "__main__":
    unittest.main()
