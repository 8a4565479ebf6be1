"""[3.1], [3.2], [2.1], [0.2] (b) and [0.3]: moves of single beads."""

import unittest
from itertools import product

from beadrods import moves
from beadrods.errors import NoManner, NoMove, NoNumber, NoSetting
from going_through import (
    FEW_MANNERS, MANNERS, NO_MANNERS, NO_NUMBERS, NO_SETTINGS, SOROBAN, STRANGE, SUANPAN, number_by_hand, rods_of,
    settings_by_number, some_numbers, some_settings,
)

# With beads in both decks of the middle rod, none in the first one, and all of them in the last one.
MIXED = ((0, 0), (1, 2), (2, 5))
NO_MOVES = STRANGE + [
    [1, "upper", 1], (1, "upper"), (1, "upper", 1, 1), ((1, "upper", 1),), [(1, "upper", 1)], "1 upper 1", 0, 1, -1,
    (True, "upper", 1), (False, "lower", 1), (1, "upper", True), (1, "lower", False), (1, "lower", True),
    (-1, "upper", -1), (3, "upper", 1), (-3, "lower", 1), (4, "lower", -1), (10 ** 100, "lower", 1),
    (1, "Upper", 1), (1, "", 1), (1, "u", 1), (1, "lower ", 1), (1, "upperlower", 1), (1, 0, 1), (1, 1, 1), (1, None, 1),
    (1, True, 1), (1, ["upper"], 1), (1, ("upper",), 1), (1, (("lower",),), 1), (1, [["lower"]], 1),
    (1, "upper", 0), (1, "upper", 2), (1, "upper", -2), (1, "lower", 2), (1, "lower", "1"), (1, "lower", None),
    (1, "lower", [1]), (1, "lower", (1,)), ("1", "lower", 1), (None, "lower", 1), ([1], "lower", 1), ((1,), "lower", 1),
    ("upper", 1, 1), (1, 1, "upper"), (None, None, None), ("upper", "upper", "upper"),
]
ASKED_OF_NUMBERS = ["nearest", "fewest_moves", "slips"]


# All settings that are unlike this one by one bead, with the tuples that tell of it, in the order of all_moves.
def steps_by_hand(manner, setting):
    told = []
    for rod, deck, by in product(range(len(setting)), (0, 1), (1, -1)):
        beads = [list(one) for one in setting]
        beads[rod][deck] += by
        if tuple(beads[rod]) in rods_of(manner):
            told.append(((rod, ("upper", "lower")[deck], by), tuple(tuple(one) for one in beads)))
    return told


# How far all settings are from this one, gone through step by step.
def distances_by_hand(manner, setting):
    found = {setting: 0}
    edge = [setting]
    while edge:
        fresh = []
        for here in edge:
            for _, there in steps_by_hand(manner, here):
                if there not in found:
                    found[there] = found[here] + 1
                    fresh.append(there)
        edge = fresh
    return found


def beads_apart(one, other):
    return sum(abs(a - b) for rod, goal in zip(one, other) for a, b in zip(rod, goal))


def settings_of_all_lengths(manner):
    return [setting for rods in (1, 2, 3, 4) for setting in some_settings(manner, rods, 120)]


class SingleMoves(unittest.TestCase):
    def test_all_settings_of_one_and_two_rods(self):
        for manner in FEW_MANNERS:
            for rods in (1, 2):
                for setting in product(rods_of(manner), repeat=rods):
                    self.check_setting(manner, setting)

    def test_some_settings_of_all_lengths(self):
        for manner in MANNERS:
            for setting in settings_of_all_lengths(manner):
                self.check_setting(manner, setting)

    def check_setting(self, manner, setting):
        steps = steps_by_hand(manner, setting)
        self.assertEqual(moves.all_moves(manner, setting), [move for move, _ in steps], (manner, setting))
        for move, there in steps:
            self.assertEqual(moves.moved(manner, setting, move), there, (manner, setting, move))

    def test_all_tuples_about_the_bounds(self):
        for manner in FEW_MANNERS:
            for rods in (1, 2, 3):
                for setting in some_settings(manner, rods, 20):
                    known = dict(steps_by_hand(manner, setting))
                    for move in product(range(-2, rods + 2), ("upper", "lower", "deck"), range(-2, 3)):
                        self.check_tuple(manner, setting, move, known)

    def check_tuple(self, manner, setting, move, known):
        self.assertIs(moves.is_move(manner, setting, move), move in known, (manner, setting, move))
        if move not in known:
            with self.assertRaises(NoMove):
                moves.moved(manner, setting, move)

    def test_moves_are_undone_by_moves(self):
        for manner in MANNERS:
            for setting in settings_of_all_lengths(manner):
                for rod, deck, by in moves.all_moves(manner, setting):
                    there = moves.moved(manner, setting, (rod, deck, by))
                    self.assertEqual(moves.moved(manner, there, (rod, deck, -by)), setting)

    def test_written_out(self):
        self.assertEqual(moves.all_moves(SUANPAN, MIXED), [
            (0, "upper", 1), (0, "lower", 1),
            (1, "upper", 1), (1, "upper", -1), (1, "lower", 1), (1, "lower", -1),
            (2, "upper", -1), (2, "lower", -1),
        ])
        self.assertEqual(moves.moved(SUANPAN, MIXED, (0, "upper", 1)), ((1, 0), (1, 2), (2, 5)))
        self.assertEqual(moves.moved(SUANPAN, MIXED, (1, "lower", -1)), ((0, 0), (1, 1), (2, 5)))
        self.assertEqual(moves.moved(SUANPAN, MIXED, (2, "upper", -1)), ((0, 0), (1, 2), (1, 5)))

    def test_where_there_are_beads_and_where_there_are_none(self):
        for rod, ways in [(0, [1]), (1, [1, -1]), (2, [-1])]:
            for deck, by in product(("upper", "lower"), (1, -1)):
                self.assertIs(moves.is_move(SUANPAN, MIXED, (rod, deck, by)), by in ways, (rod, deck, by))

    def test_a_deck_without_beads(self):
        for by in (1, -1):
            self.assertIs(moves.is_move((0, 1, 9, 10), ((0, 5),), (0, "upper", by)), False)
            self.assertIs(moves.is_move((3, 1, 0, 2), ((2, 0),), (0, "lower", by)), False)
        self.assertEqual(moves.all_moves((0, 1, 1, 2), ((0, 1),)), [(0, "lower", -1)])

    def test_things_that_are_no_moves(self):
        for thing in NO_MOVES:
            self.assertIs(moves.is_move(SUANPAN, MIXED, thing), False)
            with self.assertRaises(NoMove):
                moves.moved(SUANPAN, MIXED, thing)

    def test_what_is_asked_of_is_not_changed(self):
        thing = [[1, ["upper"]], [1, (2, [3])]]
        moves.is_move(SUANPAN, MIXED, thing)
        self.assertEqual(thing, [[1, ["upper"]], [1, (2, [3])]])

    def test_a_changed_list_is_told_as_before(self):
        told = moves.all_moves(SUANPAN, MIXED)
        before = list(told)
        told.pop()
        told.reverse()
        self.assertEqual(moves.all_moves(SUANPAN, MIXED), before)


class Run(unittest.TestCase):
    def test_no_moves(self):
        for manner in MANNERS:
            for setting in settings_of_all_lengths(manner):
                self.assertEqual(moves.run(manner, setting, []), setting)

    def test_one_by_one(self):
        for manner in FEW_MANNERS:
            for setting in settings_of_all_lengths(manner):
                way, here = self.some_way(manner, setting)
                self.assertEqual(moves.run(manner, setting, way), here, (manner, setting, way))
                back = [(rod, deck, -by) for rod, deck, by in reversed(way)]
                self.assertEqual(moves.run(manner, here, back), setting, (manner, here, back))

    def some_way(self, manner, setting):
        way = []
        for index in range(7):
            steps = steps_by_hand(manner, setting)
            move, setting = steps[index * 5 % len(steps)]
            way.append(move)
        return way, setting

    def test_written_out(self):
        way = [(0, "lower", 1), (0, "lower", 1), (1, "upper", 1), (0, "lower", -1)]
        self.assertEqual(moves.run(SOROBAN, ((0, 0), (0, 0)), way), ((0, 1), (1, 0)))

    # Each of these is a move of the first setting, but the second time there is no bead for it.
    def test_a_move_for_which_no_bead_is_left(self):
        for move in [(0, "upper", 1), (1, "upper", -1)]:
            setting = ((0, 0), (1, 0))
            self.assertIs(moves.is_move(SOROBAN, setting, move), True)
            with self.assertRaises(NoMove):
                moves.run(SOROBAN, setting, [move, move])

    # There is no bead for it at first, but there is behind the first move.
    def test_a_move_for_which_a_bead_comes(self):
        self.assertEqual(moves.run(SOROBAN, ((0, 0),), [(0, "upper", 1), (0, "upper", -1)]), ((0, 0),))

    def test_a_fault_behind_good_ones_and_ahead_of_them(self):
        good = [(1, "upper", 1), (1, "upper", -1)]
        for thing in NO_MOVES:
            for several in (good + [thing], [thing] + good, [thing]):
                with self.assertRaises(NoMove):
                    moves.run(SUANPAN, MIXED, several)

    def test_no_list_of_moves(self):
        for thing in [None, True, 1, "", "upper", (), ((1, "upper", 1),), (1, "upper", 1)]:
            with self.assertRaises(NoMove):
                moves.run(SUANPAN, MIXED, thing)

    def test_what_is_handed_in_is_not_changed(self):
        way = [(1, "upper", 1), (1, "upper", -1)]
        moves.run(SUANPAN, MIXED, way)
        self.assertEqual(way, [(1, "upper", 1), (1, "upper", -1)])
        way.append([["no move"]])
        with self.assertRaises(NoMove):
            moves.run(SUANPAN, MIXED, way)
        self.assertEqual(way, [(1, "upper", 1), (1, "upper", -1), [["no move"]]])


class Ways(unittest.TestCase):
    def test_apart_of_all_settings_of_one_and_two_rods(self):
        for manner in FEW_MANNERS:
            for rods in (1, 2):
                for one in some_settings(manner, rods, 40):
                    for other, steps in distances_by_hand(manner, one).items():
                        self.assertEqual(moves.apart(one, other), steps, (manner, one, other))

    def test_apart_of_all_settings_of_three_and_four_rods(self):
        for manner in [(1, 1, 1, 3), (0, 1, 1, 2), (3, 1, 0, 2)]:
            for rods in (3, 4):
                for one in some_settings(manner, rods, 8):
                    for other, steps in distances_by_hand(manner, one).items():
                        self.assertEqual(moves.apart(one, other), steps, (manner, one, other))

    def test_moves_to_leads_there_in_order(self):
        for manner in MANNERS:
            for rods in (1, 2, 3, 4):
                for one, other in product(some_settings(manner, rods, 30), repeat=2):
                    told = moves.moves_to(manner, one, other)
                    self.assertEqual(len(told), beads_apart(one, other), (manner, one, other))
                    self.assertEqual(moves.run(manner, one, told), other, (manner, one, other))
                    order = [(rod, ("upper", "lower").index(deck)) for rod, deck, _ in told]
                    self.assertEqual(order, sorted(order), (manner, one, other))

    def test_written_out(self):
        one, other = ((0, 0), (1, 2), (2, 5)), ((2, 1), (1, 4), (1, 3))
        self.assertEqual(moves.apart(one, other), 8)
        self.assertEqual(moves.moves_to(SUANPAN, one, other), [
            (0, "upper", 1), (0, "upper", 1), (0, "lower", 1), (1, "lower", 1), (1, "lower", 1),
            (2, "upper", -1), (2, "lower", -1), (2, "lower", -1),
        ])

    def test_to_itself(self):
        self.assertEqual(moves.apart(MIXED, MIXED), 0)
        self.assertEqual(moves.moves_to(SUANPAN, MIXED, MIXED), [])

    def test_unlike_lengths(self):
        for one, other in product(range(1, 5), repeat=2):
            if one != other:
                with self.assertRaises(NoMove):
                    moves.moves_to(SOROBAN, ((0, 1),) * one, ((0, 1),) * other)

    def test_a_changed_list_is_told_as_before(self):
        told = moves.moves_to(SUANPAN, MIXED, ((0, 0),) * 3)
        before = list(told)
        told[0] = "other"
        told.append("more")
        self.assertEqual(moves.moves_to(SUANPAN, MIXED, ((0, 0),) * 3), before)


class ToNumbers(unittest.TestCase):
    def check_number(self, manner, setting, number, those):
        about = (manner, setting, number)
        told = moves.nearest(manner, setting, number)
        fewest = min([beads_apart(setting, other) for other in those], default=None)
        self.assertEqual(moves.fewest_moves(manner, setting, number), fewest, about)
        if those:
            self.assertIn(told, those, about)
            self.assertEqual(beads_apart(setting, told), fewest, about)
        else:
            self.assertIsNone(told, about)

    def test_all_numbers_of_one_and_two_rods(self):
        for manner in FEW_MANNERS:
            for rods, most in ((1, 100), (2, 9)):
                found = settings_by_number(manner, rods)
                for setting in some_settings(manner, rods, most):
                    for number in range(max(found) + 3):
                        self.check_number(manner, setting, number, found.get(number, []))

    def test_some_numbers_of_three_and_four_rods(self):
        for manner in FEW_MANNERS + [(1, 3, 2, 2)]:
            for rods in (3, 4):
                found = settings_by_number(manner, rods)
                for setting in some_settings(manner, rods, 9):
                    for number in some_numbers(max(found)):
                        self.check_number(manner, setting, number, found.get(number, []))

    def test_written_out(self):
        # 10 is nearer by one more upper bead than by the plain setting.
        self.assertEqual(moves.nearest(SUANPAN, ((0, 0), (1, 0)), 10), ((0, 0), (2, 0)))
        self.assertEqual(moves.fewest_moves(SUANPAN, ((0, 0), (1, 0)), 10), 1)
        self.assertEqual(moves.nearest(SOROBAN, ((0, 0), (1, 4)), 10), ((0, 1), (0, 0)))
        self.assertEqual(moves.fewest_moves(SOROBAN, ((0, 0), (1, 4)), 10), 6)

    def test_a_number_that_no_setting_has(self):
        for manner, setting, number in [
            (SOROBAN, ((0, 0),), 10), (SOROBAN, ((0, 0),) * 4, 10000), (SOROBAN, ((0, 0),) * 4, 99999),
            ((1, 16, 1, 2), ((0, 0),), 7), ((1, 16, 1, 2), ((0, 0),), 15),
        ]:
            self.assertIsNone(moves.nearest(manner, setting, number))
            self.assertIsNone(moves.fewest_moves(manner, setting, number))
            self.assertEqual(moves.slips(manner, setting, number), [])

    def test_its_own_number(self):
        for manner in MANNERS:
            for setting in settings_of_all_lengths(manner):
                number = number_by_hand(manner, setting)
                if number <= 99999:
                    self.assertEqual(moves.nearest(manner, setting, number), setting)
                    self.assertEqual(moves.fewest_moves(manner, setting, number), 0)
                    self.assertEqual(moves.slips(manner, setting, number), [])


class Slips(unittest.TestCase):
    def check_number(self, manner, setting, number):
        steps = steps_by_hand(manner, setting)
        expected = [move for move, there in steps if number_by_hand(manner, there) == number]
        self.assertEqual(moves.slips(manner, setting, number), expected, (manner, setting, number))

    def test_all_numbers_of_one_and_two_rods(self):
        for manner in FEW_MANNERS:
            for rods, most in ((1, 100), (2, 9)):
                top = max(settings_by_number(manner, rods))
                for setting in some_settings(manner, rods, most):
                    for number in range(top + 3):
                        self.check_number(manner, setting, number)

    def test_all_numbers_one_move_away(self):
        for manner in MANNERS:
            for setting in settings_of_all_lengths(manner):
                for number in {number_by_hand(manner, there) for _, there in steps_by_hand(manner, setting)}:
                    if number <= 99999:
                        self.check_number(manner, setting, number)

    def test_written_out(self):
        self.assertEqual(moves.slips(SOROBAN, ((0, 1), (0, 2)), 17), [(1, "upper", 1)])
        self.assertEqual(moves.slips(SOROBAN, ((0, 1), (0, 2)), 2), [(0, "lower", -1)])
        self.assertEqual(moves.slips(SOROBAN, ((0, 1), (0, 2)), 14), [])
        # Several moves lead to one number, where beads of two decks or two rods are worth the same.
        self.assertEqual(moves.slips((1, 1, 1, 3), ((0, 0), (0, 0)), 1), [(1, "upper", 1), (1, "lower", 1)])
        self.assertEqual(moves.slips((1, 2, 1, 2), ((0, 0), (0, 0)), 2), [(0, "lower", 1), (1, "upper", 1)])

    def test_a_changed_list_is_told_as_before(self):
        told = moves.slips((1, 1, 1, 3), ((0, 0), (0, 0)), 1)
        told.clear()
        self.assertEqual(moves.slips((1, 1, 1, 3), ((0, 0), (0, 0)), 1), [(1, "upper", 1), (1, "lower", 1)])


class Refusals(unittest.TestCase):
    def asked(self, manner, setting, good):
        yield lambda: moves.is_move(manner, setting, (0, "lower", 1) if good else None)
        yield lambda: moves.moved(manner, setting, (0, "lower", 1) if good else [[]])
        yield lambda: moves.all_moves(manner, setting)
        yield lambda: moves.run(manner, setting, [(0, "lower", 1)] if good else [None])
        yield lambda: moves.run(manner, setting, [] if good else None)
        yield lambda: moves.moves_to(manner, setting, ((0, 0),) if good else None)
        for name in ASKED_OF_NUMBERS:
            yield lambda: getattr(moves, name)(manner, setting, 1 if good else -1)

    def test_no_manner_ahead_of_all(self):
        for manner in NO_MANNERS:
            for setting, good in product([((0, 0),), None, [[]], ((0, 9),)], (True, False)):
                for ask in self.asked(manner, setting, good):
                    with self.assertRaises(NoManner):
                        ask()

    def test_no_setting_ahead_of_what_comes_behind(self):
        for setting, good in product(NO_SETTINGS, (True, False)):
            for ask in self.asked(SOROBAN, setting, good):
                with self.assertRaises(NoSetting):
                    ask()

    def test_no_setting_of_the_other_one(self):
        for other in NO_SETTINGS:
            with self.assertRaises(NoSetting):
                moves.moves_to(SOROBAN, ((0, 0),), other)

    def test_no_setting_ahead_of_unlike_lengths(self):
        for one, other in [(((0, 0),), ((0, 9), (0, 0))), (((0, 9), (0, 0)), ((0, 0),))]:
            with self.assertRaises(NoSetting):
                moves.moves_to(SOROBAN, one, other)

    def test_no_number(self):
        for name in ASKED_OF_NUMBERS:
            for number in NO_NUMBERS:
                with self.assertRaises(NoNumber):
                    getattr(moves, name)(SOROBAN, ((0, 0),), number)

    def test_bounds_are_taken(self):
        for name in ASKED_OF_NUMBERS:
            for number in (0, 99999):
                getattr(moves, name)(SOROBAN, ((0, 0),) * 4, number)


if __name__ == "__main__":
    unittest.main()
