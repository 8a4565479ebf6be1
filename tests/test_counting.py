"""[10.1], [0.2] (h) and [0.3]: how many moves counting takes."""

import unittest
from itertools import product

from beadrods.counting import busiest_step, by_rods, moves_up
from beadrods.errors import NoManner, NoNumber, TooGreat
from beadrods.moves import moves_to
from going_through import FEW_MANNERS, MANNERS, NO_MANNERS, NO_NUMBERS, NO_ROD_NUMBERS, SOROBAN, SUANPAN, plain_by_hand

ASKED = [moves_up, by_rods, busiest_step]


# Setting by setting, bead by bead: for each step how many moves are on each rod.
def steps_by_hand(manner, rods, first, last):
    told = []
    now = plain_by_hand(manner, rods, first)
    for number in range(first + 1, last + 1):
        goal = plain_by_hand(manner, rods, number)
        told.append([abs(rod[0] - there[0]) + abs(rod[1] - there[1]) for rod, there in zip(now, goal)])
        now = goal
    return told


class Counting(unittest.TestCase):
    def check_stretch(self, manner, rods, first, last):
        about = (manner, rods, first, last)
        steps = steps_by_hand(manner, rods, first, last)
        on_rods = [sum(step[at] for step in steps) for at in range(rods)]
        self.assertEqual(by_rods(manner, rods, first, last), on_rods, about)
        self.assertEqual(moves_up(manner, rods, first, last), sum(on_rods), about)
        busiest = None
        for at, step in enumerate(steps):
            if busiest is None or sum(step) > busiest[1]:
                busiest = (first + at, sum(step))
        self.assertEqual(busiest_step(manner, rods, first, last), busiest, about)

    def test_all_stretches_of_small_numbers(self):
        for manner in FEW_MANNERS:
            for rods in (1, 2):
                most = min(manner[3] ** rods, 24)
                for first in range(most):
                    for last in range(first, most):
                        self.check_stretch(manner, rods, first, last)

    def test_some_stretches_on_all_lengths(self):
        for manner in MANNERS + FEW_MANNERS:
            for rods in (1, 2, 3, 4):
                most = min(manner[3] ** rods - 1, 99999)
                for first in sorted({0, most // 3, most // 2 + 1, max(0, most - 130), max(0, most - 17), most}):
                    for far in (0, 1, 2, 37, 113):
                        self.check_stretch(manner, rods, first, min(most, first + far))

    def test_the_longest_stretches(self):
        for manner in [SOROBAN, SUANPAN, (3, 4, 3, 16)]:
            for first in (0, 1, manner[3] ** 4 - 1000):
                self.check_stretch(manner, 4, first, first + 999)
        self.check_stretch(SOROBAN, 3, 0, 999)

    def test_as_many_as_moves_are_told(self):
        for manner in FEW_MANNERS:
            for rods in (1, 2, 3, 4):
                last = min(manner[3] ** rods - 1, 60)
                way = [plain_by_hand(manner, rods, number) for number in range(last + 1)]
                moves = [move for one, other in zip(way, way[1:]) for move in moves_to(manner, one, other)]
                self.assertEqual(moves_up(manner, rods, 0, last), len(moves))
                told = [sum(move[0] == rod for move in moves) for rod in range(rods)]
                self.assertEqual(by_rods(manner, rods, 0, last), told)

    def test_moves_come_to_those_of_the_parts(self):
        for manner in FEW_MANNERS:
            for rods in (2, 3, 4):
                last = min(manner[3] ** rods - 1, 999)
                for middle in sorted({0, last // 4, last // 2, last}):
                    one, other = by_rods(manner, rods, 0, middle), by_rods(manner, rods, middle, last)
                    whole = by_rods(manner, rods, 0, last)
                    self.assertEqual([a + b for a, b in zip(one, other)], whole)
                    both = moves_up(manner, rods, 0, middle) + moves_up(manner, rods, middle, last)
                    self.assertEqual(both, moves_up(manner, rods, 0, last))
                    self.assertEqual(sum(whole), both)


class WrittenOut(unittest.TestCase):
    # 4 to 5 is one upper bead more and four lower ones fewer.
    def test_one_rod(self):
        for last, moves in [(0, 0), (1, 1), (4, 4), (5, 9), (9, 13)]:
            self.assertEqual(moves_up(SOROBAN, 1, 0, last), moves)
            self.assertEqual(by_rods(SOROBAN, 1, 0, last), [moves])
        self.assertEqual(busiest_step(SOROBAN, 1, 0, 9), (4, 5))
        self.assertEqual(busiest_step(SOROBAN, 1, 0, 4), (0, 1))
        self.assertEqual(busiest_step(SOROBAN, 1, 5, 9), (5, 1))

    def test_carries(self):
        self.assertEqual(by_rods(SOROBAN, 2, 9, 10), [1, 5])
        self.assertEqual(by_rods(SOROBAN, 4, 999, 1000), [1, 5, 5, 5])
        self.assertEqual(by_rods(SOROBAN, 4, 4999, 5000), [5, 5, 5, 5])
        self.assertEqual(moves_up(SOROBAN, 4, 4999, 5000), 20)
        self.assertEqual(busiest_step(SOROBAN, 4, 4900, 5100), (4999, 20))
        self.assertEqual(by_rods((0, 1, 1, 2), 4, 0, 15), [1, 3, 7, 15])
        self.assertEqual(busiest_step((0, 1, 1, 2), 4, 0, 15), (7, 4))

    def test_of_the_busiest_the_first(self):
        self.assertEqual(busiest_step(SOROBAN, 2, 0, 99), (49, 10))
        self.assertEqual(busiest_step(SOROBAN, 2, 50, 99), (59, 6))
        self.assertEqual(busiest_step(SOROBAN, 2, 60, 99), (69, 6))
        self.assertEqual(busiest_step((0, 1, 1, 2), 4, 0, 7), (3, 3))
        self.assertEqual(busiest_step((0, 1, 1, 2), 3, 0, 2), (1, 2))

    def test_first_and_last_are_one(self):
        for manner in FEW_MANNERS:
            for rods in (1, 2, 3, 4):
                for number in (0, 1, manner[3] ** rods - 1):
                    self.assertEqual(moves_up(manner, rods, number, number), 0)
                    self.assertEqual(by_rods(manner, rods, number, number), [0] * rods)
                    self.assertIsNone(busiest_step(manner, rods, number, number))

    def test_a_changed_list_is_told_as_before(self):
        told = by_rods(SOROBAN, 2, 0, 20)
        before = list(told)
        told.reverse()
        told.append("more")
        self.assertEqual(by_rods(SOROBAN, 2, 0, 20), before)


class Refusals(unittest.TestCase):
    def refused(self, error, *handed):
        for ask in ASKED:
            with self.assertRaises(error, msg=handed):
                ask(*handed)

    def test_how_far(self):
        for ask in ASKED:
            ask(SOROBAN, 4, 5, 1004)
        for first, last in [(5, 1005), (0, 1000), (0, 9999), (0, 99999), (1, 0), (9999, 0), (500, 499)]:
            self.refused(NoNumber, SOROBAN, 4, first, last)

    def test_more_digits_than_rods(self):
        for rods, first, last in [
            (1, 0, 10), (1, 9, 10), (1, 10, 10), (1, 12, 15), (2, 0, 100), (2, 99, 100), (3, 1, 1000), (4, 9999, 10000),
            (4, 99999, 99999), (4, 99000, 99999), (1, 0, 999),
        ]:
            self.refused(TooGreat, SOROBAN, rods, first, last)
            self.refused(TooGreat, SUANPAN, rods, first, last)
        for ask, number in product(ASKED, [9, 99, 999, 9999]):
            ask(SOROBAN, len(str(number)), number - 1, number)

    def test_no_number_ahead_of_too_great(self):
        for thing in NO_NUMBERS:
            for first, last in [(thing, 0), (0, thing), (thing, 99999), (99999, thing), (thing, thing)]:
                self.refused(NoNumber, SOROBAN, 1, first, last)
        for first, last in [(0, 1000), (99999, 0), (50000, 99999), (99999, 99998), (98999, 99999)]:
            self.refused(NoNumber, SOROBAN, 1, first, last)
        for rods in NO_ROD_NUMBERS:
            for first, last in [(0, 0), (99999, 99999), (0, 1000), (1, 0), (-1, None)]:
                self.refused(NoNumber, SOROBAN, rods, first, last)

    def test_no_manner_ahead_of_all(self):
        for manner in NO_MANNERS:
            for rods, first, last in [(1, 0, 1), (1, 99999, 99999), (0, 0, 0), (1, 1, 0), (1, None, 0), ([], [], [])]:
                self.refused(NoManner, manner, rods, first, last)


if __name__ == "__main__":
    unittest.main()
