"""[2.1], [2.2], [0.2] (a) and [0.3]: settings, and the numbers that they have."""

import unittest
from itertools import islice, product

from beadrods import settings
from beadrods.errors import NoManner, NoNumber, NoSetting, TooGreat
from beadrods.manners import is_manner
from going_through import (
    MANNERS, NO_MANNERS, NO_NUMBERS, NO_ROD_NUMBERS, NO_SETTINGS, SOROBAN, SUANPAN, beads_by_hand,
    number_by_hand, plain_by_hand, rods_of, settings_by_number, some_numbers, worth_of,
)

ASKING = ["all_settings", "how_many", "plain_setting", "least_beads"]
READING = ["value", "all_beads"]


class IsSetting(unittest.TestCase):
    def test_rods_of_the_manner_and_one_beyond_either(self):
        for manner in MANNERS:
            for rod in product(range(-1, manner[0] + 2), range(-1, manner[2] + 2)):
                expected = rod in rods_of(manner)
                self.assertIs(settings.is_setting(manner, (rod,)), expected, (manner, rod))
                self.assertIs(settings.is_setting(manner, ((0, 0), rod)), expected, (manner, rod))
                self.assertIs(settings.is_setting(manner, (rod, (0, 0))), expected, (manner, rod))

    def test_one_to_four_rods(self):
        for rods in range(0, 7):
            with self.subTest(rods=rods):
                self.assertIs(settings.is_setting(SOROBAN, ((1, 4),) * rods), 1 <= rods <= 4)

    def test_strange_things(self):
        for thing in NO_SETTINGS:
            self.assertIs(settings.is_setting(SOROBAN, thing), False)

    def test_no_manner_whatever_the_thing(self):
        for manner in NO_MANNERS:
            for thing in [((0, 0),), None, [[]], ((0, 9),)]:
                with self.assertRaises(NoManner):
                    settings.is_setting(manner, thing)

    def test_what_is_asked_of_is_not_changed(self):
        thing = [[(0, 0)], [[1], "a"]]
        settings.is_setting(SOROBAN, thing)
        self.assertEqual(thing, [[(0, 0)], [[1], "a"]])


class Reading(unittest.TestCase):
    def test_all_settings_of_one_and_two_rods(self):
        for manner in MANNERS:
            for rods in (1, 2):
                for setting in product(rods_of(manner), repeat=rods):
                    self.assertEqual(settings.value(manner, setting), number_by_hand(manner, setting))
                    self.assertEqual(settings.all_beads(manner, setting), beads_by_hand(setting))

    def test_some_settings_of_three_and_four_rods(self):
        for manner in MANNERS:
            for rods, step in ((3, 97), (4, 9973)):
                for setting in islice(product(rods_of(manner), repeat=rods), 0, None, step):
                    self.assertEqual(settings.value(manner, setting), number_by_hand(manner, setting))
                    self.assertEqual(settings.all_beads(manner, setting), beads_by_hand(setting))

    def test_written_out(self):
        self.assertEqual(settings.value(SOROBAN, ((0, 1), (1, 0), (0, 4))), 154)
        self.assertEqual(settings.all_beads(SOROBAN, ((0, 1), (1, 0), (0, 4))), 6)
        self.assertEqual(settings.value(SUANPAN, ((0, 1), (2, 5))), 25)
        self.assertEqual(settings.value((3, 16, 12, 13), ((3, 12),)), 60)

    def test_no_setting(self):
        for name in READING:
            for thing in NO_SETTINGS:
                with self.assertRaises(NoSetting):
                    getattr(settings, name)(SOROBAN, thing)

    def test_no_manner_ahead_of_no_setting(self):
        for name in READING:
            for manner in NO_MANNERS:
                for thing in [((0, 0),), None, [[]], ((0, 9),)]:
                    with self.assertRaises(NoManner):
                        getattr(settings, name)(manner, thing)


class Asking(unittest.TestCase):
    def check_number(self, manner, rods, number, those):
        told = settings.all_settings(manner, rods, number)
        self.assertEqual(told, sorted(those), (manner, rods, number))
        self.assertEqual(settings.how_many(manner, rods, number), len(those), (manner, rods, number))
        fewest = min([beads_by_hand(setting) for setting in those], default=None)
        self.assertEqual(settings.least_beads(manner, rods, number), fewest, (manner, rods, number))

    def test_all_numbers_of_one_and_two_rods(self):
        for manner in MANNERS:
            for rods in (1, 2):
                found = settings_by_number(manner, rods)
                for number in range(0, max(found) + 3):
                    self.check_number(manner, rods, number, found.get(number, []))

    def test_some_numbers_of_three_and_four_rods(self):
        for manner in [SOROBAN, SUANPAN, (0, 1, 9, 10), (3, 4, 3, 16), (1, 3, 2, 2)]:
            for rods in (3, 4):
                found = settings_by_number(manner, rods)
                for number in some_numbers(max(found)):
                    self.check_number(manner, rods, number, found.get(number, []))

    def test_written_out(self):
        self.assertEqual(settings.all_settings(SUANPAN, 2, 15), [
            ((0, 0), (2, 5)), ((0, 1), (0, 5)), ((0, 1), (1, 0)),
        ])
        self.assertEqual(settings.how_many(SUANPAN, 2, 15), 3)
        self.assertEqual(settings.least_beads(SUANPAN, 2, 15), 2)
        self.assertEqual(settings.all_settings((3, 1, 0, 2), 2, 9), [((3, 0), (3, 0))])

    def test_a_number_beyond_the_greatest(self):
        for number in (10000, 99999):
            self.assertEqual(settings.all_settings(SOROBAN, 4, number), [])
            self.assertEqual(settings.how_many(SOROBAN, 4, number), 0)
            self.assertIsNone(settings.least_beads(SOROBAN, 4, number))

    def test_a_number_between_that_no_rods_have(self):
        self.assertEqual(settings.all_settings((1, 16, 1, 2), 1, 7), [])
        self.assertEqual(settings.how_many((1, 16, 1, 2), 1, 7), 0)
        self.assertIsNone(settings.least_beads((1, 16, 1, 2), 1, 7))

    def test_four_full_rods_hold_all_settings(self):
        manner = (3, 1, 12, 2)
        self.assertEqual(sum(settings.how_many(manner, 4, number) for number in range(226)), 52 ** 4)
        many = settings.all_settings(manner, 4, 112)
        self.assertEqual(len(many), settings.how_many(manner, 4, 112))
        self.assertTrue(all(one < other for one, other in zip(many, many[1:])))
        self.assertEqual({number_by_hand(manner, setting) for setting in many}, {112})

    def test_a_changed_list_is_told_as_before(self):
        told = settings.all_settings(SUANPAN, 2, 15)
        before = list(told)
        told.reverse()
        told.pop()
        self.assertEqual(settings.all_settings(SUANPAN, 2, 15), before)


class Greatest(unittest.TestCase):
    def test_several_manners(self):
        for manner in MANNERS:
            most = max(worth_of(manner, rod) for rod in rods_of(manner))
            for rods in range(1, 5):
                expected = sum(most * manner[3] ** place for place in range(rods))
                self.assertEqual(settings.greatest(manner, rods), expected, (manner, rods))

    def test_written_out(self):
        self.assertEqual(settings.greatest(SOROBAN, 4), 9999)
        self.assertEqual(settings.greatest(SUANPAN, 2), 165)
        self.assertEqual(settings.greatest((3, 1, 12, 16), 1), 15)
        self.assertEqual(settings.greatest((3, 16, 12, 13), 4), 60 * (1 + 13 + 169 + 2197))

    def test_refusals(self):
        for rods in NO_ROD_NUMBERS:
            with self.assertRaises(NoNumber):
                settings.greatest(SOROBAN, rods)
        for manner in NO_MANNERS:
            for rods in (1, 0, None, True):
                with self.assertRaises(NoManner):
                    settings.greatest(manner, rods)


class PlainSetting(unittest.TestCase):
    def test_several_manners(self):
        for manner in MANNERS:
            for rods in range(1, 5):
                for number in some_numbers(manner[3] ** rods - 2):
                    if number < manner[3] ** rods:
                        told = settings.plain_setting(manner, rods, number)
                        self.assertEqual(told, plain_by_hand(manner, rods, number), (manner, rods, number))

    def test_it_is_among_the_settings_of_its_number(self):
        for manner in MANNERS:
            for number in some_numbers(manner[3] ** 3 - 2):
                if number < manner[3] ** 3:
                    plain = settings.plain_setting(manner, 3, number)
                    self.assertEqual(settings.value(manner, plain), number)
                    self.assertIn(plain, settings.all_settings(manner, 3, number))

    def test_just_as_many_digits_and_one_more(self):
        for manner in MANNERS:
            for rods in range(1, 5):
                most = manner[3] ** rods - 1
                self.assertEqual(settings.plain_setting(manner, rods, most), plain_by_hand(manner, rods, most))
                with self.assertRaises(TooGreat):
                    settings.plain_setting(manner, rods, most + 1)

    # 15 is a number that one rod of this manner has, and yet its digits are two.
    def test_too_great_goes_by_digits_not_by_settings(self):
        self.assertEqual(settings.how_many(SUANPAN, 1, 15), 1)
        with self.assertRaises(TooGreat):
            settings.plain_setting(SUANPAN, 1, 15)

    def test_written_out(self):
        self.assertEqual(settings.plain_setting(SOROBAN, 4, 1507), ((0, 1), (1, 0), (0, 0), (1, 2)))
        self.assertEqual(settings.plain_setting((3, 4, 3, 16), 4, 65535), ((3, 3),) * 4)
        self.assertEqual(settings.plain_setting((3, 1, 12, 16), 2, 31), ((0, 1), (3, 12)))
        self.assertEqual(settings.plain_setting(SOROBAN, 2, 0), ((0, 0), (0, 0)))
        with self.assertRaises(TooGreat):
            settings.plain_setting(SOROBAN, 4, 99999)


class AskingRefusals(unittest.TestCase):
    def test_no_number_of_the_number(self):
        for name in ASKING:
            for number in NO_NUMBERS:
                with self.assertRaises(NoNumber):
                    getattr(settings, name)(SOROBAN, 4, number)

    def test_no_number_of_rods_also_ahead_of_too_great(self):
        for name in ASKING:
            for rods in NO_ROD_NUMBERS:
                for number in (0, 99999, -1, None):
                    with self.assertRaises(NoNumber):
                        getattr(settings, name)(SOROBAN, rods, number)

    def test_no_number_ahead_of_too_great(self):
        with self.assertRaises(NoNumber):
            settings.plain_setting(SOROBAN, 1, 100000)

    def test_no_manner_ahead_of_all(self):
        for name in ASKING:
            for manner in NO_MANNERS:
                for rods, number in [(4, 0), (1, 99999), (0, 0), (1, -1), (None, None), (True, "a")]:
                    with self.assertRaises(NoManner):
                        getattr(settings, name)(manner, rods, number)

    def test_bounds_are_taken(self):
        for name in ["all_settings", "how_many", "least_beads"]:
            for rods in (1, 4):
                for number in (0, 99999):
                    getattr(settings, name)(SOROBAN, rods, number)

    def test_the_manners_gone_through_are_manners(self):
        self.assertTrue(all(is_manner(manner) for manner in MANNERS))


if __name__ == "__main__":
    unittest.main()
