"""The interface, and [0.1], [0.2] (a) and [0.3] over the whole program: all of it asked in one go."""

import copy
import importlib
import inspect
import unittest

from beadrods.errors import BeadError, NoManner, NoMove, NoName, NoNumber, NoSetting, NoText, TooGreat
from going_through import (
    FEW_MANNERS, NO_MANNERS, NO_NUMBERS, NO_ROD_NUMBERS, NO_SETTINGS, SOROBAN, STRANGE, plain_by_hand,
    settings_by_number,
)

SETTING = ((0, 1), (1, 2))
DRAWING = "o.|o.ooo\n.o|oo.oo\n"
PAPER = "1 5 4 10\n" + DRAWING

# For each function an ordinary call, and the refusal of each argument in its order; None where none is told.
FUNCTIONS = [
    ("manners", "is_manner", [SOROBAN], [None]),
    ("manners", "rods_for", [SOROBAN, 7], [NoManner, NoNumber]),
    ("manners", "most_on_rod", [SOROBAN], [None]),
    ("manners", "counts", [SOROBAN], [NoManner]),
    ("manners", "beads", [(1, 2)], [None]),
    ("manners", "fewest_beads", [SOROBAN, 7], [None, None]),
    ("settings", "is_setting", [SOROBAN, SETTING], [NoManner, None]),
    ("settings", "value", [SOROBAN, SETTING], [NoManner, NoSetting]),
    ("settings", "all_settings", [SOROBAN, 2, 17], [NoManner, NoNumber, NoNumber]),
    ("settings", "how_many", [SOROBAN, 2, 17], [NoManner, NoNumber, NoNumber]),
    ("settings", "greatest", [SOROBAN, 2], [NoManner, NoNumber]),
    ("settings", "plain_setting", [SOROBAN, 2, 17], [NoManner, NoNumber, NoNumber]),
    ("settings", "all_beads", [SOROBAN, SETTING], [NoManner, NoSetting]),
    ("settings", "least_beads", [SOROBAN, 2, 17], [NoManner, NoNumber, NoNumber]),
    ("moves", "is_move", [SOROBAN, SETTING, (0, "lower", 1)], [NoManner, NoSetting, None]),
    ("moves", "moved", [SOROBAN, SETTING, (0, "lower", 1)], [NoManner, NoSetting, NoMove]),
    ("moves", "all_moves", [SOROBAN, SETTING], [NoManner, NoSetting]),
    ("moves", "run", [SOROBAN, SETTING, [(0, "lower", 1), (1, "upper", -1)]], [NoManner, NoSetting, None]),
    ("moves", "apart", [SETTING, ((0, 0), (0, 1))], [None, None]),
    ("moves", "moves_to", [SOROBAN, SETTING, ((0, 0), (0, 1))], [NoManner, NoSetting, NoSetting]),
    ("moves", "nearest", [SOROBAN, SETTING, 20], [NoManner, NoSetting, NoNumber]),
    ("moves", "fewest_moves", [SOROBAN, SETTING, 20], [NoManner, NoSetting, NoNumber]),
    ("moves", "slips", [SOROBAN, SETTING, 18], [NoManner, NoSetting, NoNumber]),
    ("sums", "adding", [SOROBAN, SETTING, 18], [NoManner, NoSetting, NoNumber]),
    ("sums", "added", [SOROBAN, SETTING, 18], [NoManner, NoSetting, NoNumber]),
    ("sums", "less", [SOROBAN, SETTING, 9], [NoManner, NoSetting, NoNumber]),
    ("sums", "product", [SOROBAN, 2, 3, 4], [NoManner, NoNumber, NoNumber, NoNumber]),
    ("sums", "rest", [SOROBAN, SETTING], [NoManner, NoSetting]),
    ("sums", "is_small", [SOROBAN, SETTING], [NoManner, NoSetting]),
    ("sums", "taking", [SOROBAN, SETTING, 9], [NoManner, NoSetting, NoNumber]),
    ("sums", "taken", [SOROBAN, SETTING, 9], [NoManner, NoSetting, NoNumber]),
    ("sums", "quotient", [SOROBAN, 2, 17, 3], [NoManner, NoNumber, NoNumber, NoNumber]),
    ("alike", "are_alike", [SOROBAN, (2, 5, 5, 10)], [NoManner, NoManner]),
    ("alike", "parting", [SOROBAN, (2, 5, 5, 10)], [NoManner, NoManner]),
    ("alike", "parts", [SOROBAN, (2, 5, 5, 10), 2, 17], [NoManner, NoManner, NoNumber, NoNumber]),
    ("alike", "is_single", [SOROBAN], [NoManner]),
    ("alike", "thriftier", [SOROBAN, (2, 5, 5, 10), 2, 17], [NoManner, NoManner, NoNumber, NoNumber]),
    ("hands", "Hand", [SOROBAN, 2], [NoManner, NoNumber]),
    ("texts", "rod_text", [SOROBAN, (1, 2)], [None, None]),
    ("texts", "setting_text", [SOROBAN, SETTING], [NoManner, NoSetting]),
    ("texts", "read_setting", [SOROBAN, DRAWING], [NoManner, NoText]),
    ("tidying", "is_tidy", [SOROBAN, SETTING], [NoManner, NoSetting]),
    ("tidying", "tidy", [SOROBAN, SETTING], [NoManner, NoSetting]),
    ("tidying", "shifted", [SOROBAN, SETTING, -1], [NoManner, NoSetting, NoNumber]),
    ("tidying", "compare", [SOROBAN, SETTING, ((0, 1),)], [NoManner, NoSetting, NoSetting]),
    ("converting", "digits_of", [10, 305], [NoNumber, NoNumber]),
    ("converting", "number_of", [10, [3, 0, 5]], [NoNumber, NoNumber]),
    ("converting", "converted", [SOROBAN, (2, 5, 5, 10), SETTING, 2], [NoManner, NoManner, NoSetting, NoNumber]),
    ("counting", "moves_up", [SOROBAN, 2, 5, 17], [NoManner, NoNumber, NoNumber, NoNumber]),
    ("counting", "by_rods", [SOROBAN, 2, 5, 17], [NoManner, NoNumber, NoNumber, NoNumber]),
    ("counting", "busiest_step", [SOROBAN, 2, 5, 17], [NoManner, NoNumber, NoNumber, NoNumber]),
    ("benches", "Bench", [SOROBAN, 2], [NoManner, NoNumber]),
    ("papers", "read_bench", [PAPER], [NoText]),
]

METHODS = [
    ("hands", "Hand", [
        ("setting", [], []), ("value", [], []), ("lay", [17], [NoNumber]), ("add", [18], [NoNumber]),
        ("take", [9], [NoNumber]), ("push", [(0, "lower", 1)], [NoMove]), ("undo", [], []), ("many", [], []),
    ]),
    ("benches", "Bench", [
        ("setting", [], []), ("value", [], []), ("add", [18], [NoNumber]), ("take", [9], [NoNumber]),
        ("push", [(0, "lower", 1)], [NoMove]), ("keep", ["b"], [NoName]), ("recall", ["b"], [NoName]),
        ("names", [], []),
        ("back", [], []), ("forth", [], []), ("steps", [], []), ("twin", [], []),
    ]),
]

WRONG = {
    NoManner: NO_MANNERS,
    NoSetting: NO_SETTINGS,
    # Wrong wherever a number is asked for, of whatever bounds, and where digits are.
    NoNumber: [thing for thing in NO_NUMBERS if thing in NO_ROD_NUMBERS and thing not in (-1, [1])],
    NoMove: STRANGE,
    NoText: [thing for thing in STRANGE if not isinstance(thing, str)] + ["", "a", DRAWING[:-1], PAPER[:-1]],
    NoName: [thing for thing in STRANGE if thing != "a"] + ["A", "abcdefg"],
}


def find(module, name):
    return getattr(importlib.import_module("beadrods." + module), name)


class Interface(unittest.TestCase):
    def test_functions_are_there_with_their_arguments(self):
        for module, name, handed, _ in FUNCTIONS:
            parameters = inspect.signature(find(module, name)).parameters.values()
            self.assertEqual(len(parameters), len(handed), name)
            self.assertTrue(all(each.default is inspect.Parameter.empty for each in parameters), name)
        self.assertEqual(len(inspect.signature(find("papers", "bench_text")).parameters), 1)

    def test_methods_are_there_with_their_arguments(self):
        for module, name, methods in METHODS:
            maker = find(module, name)
            for word, handed, _ in methods:
                method = getattr(maker(SOROBAN, 2), word)
                self.assertEqual(len(inspect.signature(method).parameters), len(handed), word)


class Refusals(unittest.TestCase):
    # Everything behind the wrong argument is wrong as well, or makes the answer too great.
    def tails(self, handed, due):
        several = [handed]
        for thing in (None, [[]], -1, 99999, True):
            several.append([thing] * len(handed))
        return several if len(due) > 1 else [handed]

    def test_each_argument_in_its_order(self):
        for module, name, handed, due in FUNCTIONS:
            ask = find(module, name)
            for at, error in enumerate(due):
                if error is None:
                    continue
                for thing in WRONG[error]:
                    for tail in self.tails(handed, due):
                        with self.assertRaises(error, msg=(name, at, thing)):
                            ask(*handed[:at], thing, *tail[at + 1:])

    def test_methods(self):
        for module, name, methods in METHODS:
            held = find(module, name)(SOROBAN, 2)
            held.add(17)
            for word, _, due in methods:
                for error in due:
                    for thing in WRONG[error]:
                        with self.assertRaises(error, msg=(word, thing)):
                            getattr(held, word)(thing)
            self.assertEqual((held.setting(), held.value()), (SETTING, 17))

    def test_too_great_behind_all(self):
        for module, name, handed in [
            ("settings", "plain_setting", [SOROBAN, 1, 10]), ("sums", "adding", [SOROBAN, SETTING, 99]),
            ("sums", "added", [SOROBAN, SETTING, 99]), ("sums", "less", [SOROBAN, SETTING, 18]),
            ("sums", "product", [SOROBAN, 1, 5, 2]), ("sums", "taking", [SOROBAN, SETTING, 18]),
            ("sums", "taken", [SOROBAN, SETTING, 18]), ("sums", "quotient", [SOROBAN, 1, 10, 3]),
            ("tidying", "shifted", [SOROBAN, SETTING, 1]), ("converting", "converted", [SOROBAN, SOROBAN, SETTING, 1]),
            ("counting", "moves_up", [SOROBAN, 1, 9, 10]), ("counting", "by_rods", [SOROBAN, 1, 9, 10]),
            ("counting", "busiest_step", [SOROBAN, 1, 9, 10]),
        ]:
            due = [each for at, other, _, each in FUNCTIONS if (at, other) == (module, name)][0]
            ask = find(module, name)
            with self.assertRaises(TooGreat):
                ask(*handed)
            for at, error in enumerate(due):
                for thing in (None, True, [[]], "a", ((),)):
                    with self.assertRaises(error, msg=(name, at, thing)):
                        ask(*handed[:at], thing, *handed[at + 1:])

    def test_all_are_value_errors(self):
        for error in WRONG:
            self.assertEqual(error.__bases__, (BeadError,))
        self.assertTrue(issubclass(BeadError, ValueError))


class Told(unittest.TestCase):
    def test_what_is_told_is_equal_each_time_and_lists_are_new(self):
        for module, name, handed, _ in FUNCTIONS:
            if name not in ("Hand", "Bench", "read_bench"):
                ask = find(module, name)
                told, kept = ask(*handed), ask(*handed)
                self.assertEqual(told, kept, name)
                if isinstance(told, list):
                    self.assertIsNot(told, kept)
                    told.reverse()
                    told.append("more")
                    self.assertEqual(ask(*handed), kept, name)

    def test_what_is_handed_in_is_not_changed(self):
        for module, name, handed, _ in FUNCTIONS:
            before = copy.deepcopy(handed)
            find(module, name)(*handed)
            self.assertEqual(handed, before, name)

    def test_truths_are_told_as_such(self):
        asked = 0
        for module, name, handed, _ in FUNCTIONS:
            if name.startswith(("is_", "are_")) or name == "parts":
                self.assertIsInstance(find(module, name)(*handed), bool, name)
                asked += 1
        self.assertEqual(asked, 8)


class Numbers(unittest.TestCase):
    # Each number that two rods can have, and those beside them that they can't.
    def test_as_many_settings_as_told_the_plain_one_among_them(self):
        for manner in FEW_MANNERS:
            for rods in (1, 2):
                by_number = settings_by_number(manner, rods)
                for number in range(max(by_number) + 3):
                    told = find("settings", "all_settings")(manner, rods, number)
                    self.assertEqual(told, by_number.get(number, []))
                    self.assertEqual(find("settings", "how_many")(manner, rods, number), len(told))
                    if number < manner[3] ** rods:
                        self.assertIn(plain_by_hand(manner, rods, number), told)


if __name__ == "__main__":
    unittest.main()
