"""[5.1], [0.2] (d) and [0.3]: manners held against one another."""

import unittest
from collections import Counter
from itertools import product

from beadrods import alike
from beadrods.errors import NoManner, NoNumber
from going_through import (
    FEW_MANNERS, NO_MANNERS, NO_NUMBERS, NO_ROD_NUMBERS, SOROBAN, SUANPAN, beads_by_hand, is_manner_by_hand, rods_of,
    settings_by_number, some_numbers, worth_of,
)

ALL_MANNERS = [
    manner for manner in product(range(4), range(1, 17), range(13), range(2, 17)) if is_manner_by_hand(manner)
]
# Manners of several bases, some of them alike, some unlike by one bead, by an upper bead's worth, by the base.
KIN = FEW_MANNERS + [
    (2, 5, 4, 10), (1, 5, 5, 10), (0, 7, 9, 10), (0, 1, 10, 10), (0, 16, 9, 10), (1, 4, 5, 10), (3, 1, 9, 10),
    (1, 1, 1, 2), (0, 9, 1, 2), (1, 1, 0, 2), (3, 1, 0, 2), (1, 1, 2, 2), (2, 1, 1, 2), (0, 1, 3, 2), (1, 2, 1, 2),
    (0, 1, 2, 3), (1, 2, 1, 3), (2, 1, 0, 3), (3, 1, 2, 3), (2, 1, 3, 3),
]
NO_MOST = NO_NUMBERS + [1000, 99999]


def counts_by_hand(manner):
    return Counter(worth_of(manner, rod) for rod in rods_of(manner))


def many_by_hand(manner, rods):
    return Counter({number: len(those) for number, those in settings_by_number(manner, rods).items()})


class AreAlike(unittest.TestCase):
    def test_as_many_settings_of_one_to_three_rods(self):
        many = {(manner, rods): many_by_hand(manner, rods) for manner in KIN for rods in (1, 2, 3)}
        for one, other in product(KIN, repeat=2):
            expected = one[3] == other[3] and all(many[one, rods] == many[other, rods] for rods in (1, 2, 3))
            self.assertIs(alike.are_alike(one, other), expected, (one, other))

    def test_every_manner_against_some(self):
        for one, other in product(ALL_MANNERS, [SOROBAN, SUANPAN, (3, 1, 2, 6), (0, 1, 1, 2)]):
            expected = one[3] == other[3] and counts_by_hand(one) == counts_by_hand(other)
            self.assertIs(alike.are_alike(one, other), expected, (one, other))
            self.assertIs(alike.are_alike(other, one), expected, (other, one))

    def test_a_manner_and_itself(self):
        for manner in ALL_MANNERS:
            self.assertIs(alike.are_alike(manner, manner), True, manner)

    def test_alike_though_not_the_same(self):
        for one, other in [
            ((3, 1, 2, 6), (2, 1, 3, 6)), ((3, 1, 0, 2), (0, 1, 3, 2)), ((0, 1, 9, 10), (0, 7, 9, 10)),
            ((1, 2, 1, 4), (3, 1, 0, 4)),
        ]:
            self.assertIs(alike.are_alike(one, other), True, (one, other))

    def test_unlike(self):
        for one, other in [
            (SOROBAN, SUANPAN), ((1, 5, 4, 10), (2, 5, 4, 10)), ((1, 5, 4, 10), (1, 5, 5, 10)),
            ((2, 5, 5, 10), (2, 4, 5, 10)), ((0, 1, 9, 10), (0, 1, 10, 10)), ((1, 5, 4, 10), (1, 5, 4, 9)),
            ((0, 1, 9, 10), (0, 1, 9, 2)),
        ]:
            self.assertIs(alike.are_alike(one, other), False, (one, other))


class Parting(unittest.TestCase):
    def by_hand(self, one, other):
        ours, theirs = counts_by_hand(one), counts_by_hand(other)
        return min([number for number in range(70) if ours[number] != theirs[number]], default=None)

    def test_all_of_one_base(self):
        for one, other in product(KIN, repeat=2):
            if one[3] == other[3]:
                told = alike.parting(one, other)
                self.assertEqual(told, self.by_hand(one, other), (one, other))
                self.assertIs(told is None, alike.are_alike(one, other))

    def test_every_manner_against_some(self):
        for one, other in product(ALL_MANNERS, [SOROBAN, (3, 1, 2, 6)]):
            if one[3] == other[3]:
                self.assertEqual(alike.parting(one, other), self.by_hand(one, other), (one, other))
                self.assertEqual(alike.parting(other, one), self.by_hand(one, other), (other, one))

    def test_the_number_parts_them_on_one_rod(self):
        for one, other in product(KIN, repeat=2):
            if one[3] == other[3] and not alike.are_alike(one, other):
                self.assertIs(alike.parts(one, other, 1, alike.parting(one, other)), True, (one, other))

    def test_written_out(self):
        self.assertEqual(alike.parting(SOROBAN, SUANPAN), 5)
        self.assertEqual(alike.parting((1, 5, 4, 10), (2, 5, 4, 10)), 10)
        self.assertEqual(alike.parting((2, 5, 4, 10), (1, 5, 4, 10)), 10)
        self.assertEqual(alike.parting((3, 16, 12, 13), (2, 16, 12, 13)), 48)
        self.assertIsNone(alike.parting((3, 1, 2, 6), (2, 1, 3, 6)))
        self.assertIsNone(alike.parting(SOROBAN, SOROBAN))

    def test_unlike_bases(self):
        for one, other in [(SOROBAN, (1, 5, 4, 9)), ((0, 1, 9, 2), (0, 1, 9, 10)), ((3, 4, 3, 16), (0, 1, 1, 2))]:
            with self.assertRaises(NoNumber):
                alike.parting(one, other)


class Parts(unittest.TestCase):
    def test_all_numbers_of_one_and_two_rods(self):
        for rods in (1, 2):
            many = {manner: many_by_hand(manner, rods) for manner in KIN}
            for one, other in product(KIN, KIN[::3]):
                for number in some_numbers(max(max(many[one]), max(many[other]))):
                    expected = many[one][number] != many[other][number]
                    self.assertIs(alike.parts(one, other, rods, number), expected, (one, other, rods, number))

    def test_some_numbers_of_three_and_four_rods(self):
        those = [SOROBAN, (2, 5, 4, 10), (0, 1, 9, 10), (1, 1, 1, 3), (0, 1, 2, 3), (1, 2, 1, 3)]
        for rods in (3, 4):
            many = {manner: many_by_hand(manner, rods) for manner in those}
            for one, other in product(those, repeat=2):
                for number in some_numbers(max(max(many[one]), max(many[other]))):
                    expected = many[one][number] != many[other][number]
                    self.assertIs(alike.parts(one, other, rods, number), expected, (one, other, rods, number))

    def test_none_parts_manners_that_are_alike(self):
        for one, other in [((3, 1, 2, 6), (2, 1, 3, 6)), ((0, 1, 9, 10), (0, 7, 9, 10)), ((1, 2, 1, 4), (3, 1, 0, 4))]:
            for rods in (1, 2, 3, 4):
                for number in some_numbers(one[3] ** rods):
                    self.assertIs(alike.parts(one, other, rods, number), False, (one, other, rods, number))

    def test_written_out(self):
        self.assertIs(alike.parts(SOROBAN, SUANPAN, 1, 4), False)
        self.assertIs(alike.parts(SOROBAN, SUANPAN, 1, 5), True)
        self.assertIs(alike.parts(SOROBAN, SUANPAN, 4, 99999), False)
        # Manners of unlike bases are asked of like others.
        self.assertIs(alike.parts((0, 1, 9, 10), (0, 1, 1, 2), 1, 1), False)
        self.assertIs(alike.parts((0, 1, 9, 10), (0, 1, 1, 2), 1, 2), True)


class IsSingle(unittest.TestCase):
    def test_every_manner(self):
        for manner in ALL_MANNERS:
            counts = counts_by_hand(manner)
            expected = max(counts.values()) == 1 and max(counts) < manner[3]
            self.assertIs(alike.is_single(manner), expected, manner)

    def test_no_number_has_two_settings(self):
        for manner in KIN:
            if alike.is_single(manner):
                for rods in (1, 2, 3):
                    self.assertEqual(set(many_by_hand(manner, rods).values()), {1}, manner)

    def test_written_out(self):
        for manner in [SOROBAN, (0, 1, 9, 10), (3, 4, 3, 16), (0, 1, 1, 2), (3, 1, 0, 4)]:
            self.assertIs(alike.is_single(manner), True, manner)
        # A worth with two rods, though none is the base or more; the base itself, though each worth has one rod.
        for manner in [SUANPAN, (1, 1, 1, 3), (0, 1, 10, 10), (2, 5, 4, 10), (0, 1, 2, 2)]:
            self.assertIs(alike.is_single(manner), False, manner)

    def test_no_manner(self):
        for manner in NO_MANNERS:
            with self.assertRaises(NoManner):
                alike.is_single(manner)


class Thriftier(unittest.TestCase):
    def fewest_by_hand(self, manner, rods):
        found = settings_by_number(manner, rods)
        return {number: min(map(beads_by_hand, those)) for number, those in found.items()}

    def check_most(self, one, other, rods, most, fewest):
        ours, theirs = fewest[one], fewest[other]
        both = [number for number in range(most + 1) if number in ours and number in theirs]
        expected = min([number for number in both if ours[number] > theirs[number]], default=None)
        self.assertEqual(alike.thriftier(one, other, rods, most), expected, (one, other, rods, most))

    def test_one_and_two_rods(self):
        for rods in (1, 2):
            fewest = {manner: self.fewest_by_hand(manner, rods) for manner in KIN}
            for one, other in product(KIN, repeat=2):
                for most in (0, 4, 5, 6, 30, 999):
                    self.check_most(one, other, rods, most, fewest)

    def test_three_and_four_rods(self):
        those = [SOROBAN, (2, 5, 4, 10), (0, 1, 9, 10), (1, 1, 1, 3), (0, 1, 1, 2), (1, 2, 1, 3), (3, 4, 3, 16)]
        for rods in (3, 4):
            fewest = {manner: self.fewest_by_hand(manner, rods) for manner in those}
            for one, other in product(those, repeat=2):
                for most in (0, 7, 999):
                    self.check_most(one, other, rods, most, fewest)

    def test_up_to_most_and_no_farther(self):
        self.assertIsNone(alike.thriftier((0, 1, 9, 10), SOROBAN, 2, 0))
        self.assertIsNone(alike.thriftier((0, 1, 9, 10), SOROBAN, 2, 4))
        self.assertEqual(alike.thriftier((0, 1, 9, 10), SOROBAN, 2, 5), 5)
        self.assertEqual(alike.thriftier((0, 1, 9, 10), SOROBAN, 2, 999), 5)

    def test_none(self):
        self.assertIsNone(alike.thriftier(SOROBAN, (0, 1, 9, 10), 4, 999))
        self.assertIsNone(alike.thriftier(SOROBAN, SOROBAN, 4, 999))

    # Of 2 and 3 only the first of these has settings on one rod.
    def test_both_have_settings(self):
        self.assertIsNone(alike.thriftier((0, 1, 9, 10), (0, 1, 1, 2), 1, 999))
        self.assertIsNone(alike.thriftier((0, 1, 1, 2), (0, 1, 9, 10), 1, 999))
        self.assertEqual(alike.thriftier((0, 1, 9, 10), (0, 1, 1, 2), 2, 999), 2)

    # 16 is one upper bead of the other manner, and yet by its digits as many beads as in the one.
    def test_the_least_beads_count_not_those_of_the_plain_setting(self):
        self.assertEqual(alike.thriftier((0, 1, 9, 10), (1, 16, 9, 10), 2, 999), 16)
        self.assertIsNone(alike.thriftier((1, 16, 9, 10), (0, 1, 9, 10), 2, 999))

    def test_no_number(self):
        for most in NO_MOST:
            with self.assertRaises(NoNumber):
                alike.thriftier(SOROBAN, SUANPAN, 2, most)
        for rods in NO_ROD_NUMBERS:
            for most in (0, 999, 1000, None):
                with self.assertRaises(NoNumber):
                    alike.thriftier(SOROBAN, SUANPAN, rods, most)

    def test_bounds_are_taken(self):
        for rods, most in product((1, 4), (0, 999)):
            self.assertIsNone(alike.thriftier(SOROBAN, SOROBAN, rods, most))


class Refusals(unittest.TestCase):
    def asked(self, one, other):
        yield lambda: alike.are_alike(one, other)
        yield lambda: alike.parting(one, other)
        for rods, number in [(1, 0), (0, 0), (5, 0), (1, -1), (1, 100000), (None, None), (True, "a"), ([], [[]])]:
            yield lambda: alike.parts(one, other, rods, number)
            yield lambda: alike.thriftier(one, other, rods, number)

    def test_no_manner_of_the_one(self):
        for one, other in product(NO_MANNERS, [SOROBAN, None]):
            for ask in self.asked(one, other):
                with self.assertRaises(NoManner):
                    ask()

    def test_no_manner_of_the_other_ahead_of_no_number(self):
        for other in NO_MANNERS:
            for ask in self.asked(SOROBAN, other):
                with self.assertRaises(NoManner):
                    ask()

    def test_no_number(self):
        for number in NO_NUMBERS:
            with self.assertRaises(NoNumber):
                alike.parts(SOROBAN, SUANPAN, 1, number)
        for rods in NO_ROD_NUMBERS:
            for number in (0, 99999, -1, None):
                with self.assertRaises(NoNumber):
                    alike.parts(SOROBAN, SUANPAN, rods, number)

    def test_bounds_are_taken(self):
        for rods, number in product((1, 4), (0, 99999)):
            self.assertIs(alike.parts(SOROBAN, SOROBAN, rods, number), False)


if __name__ == "__main__":
    unittest.main()
