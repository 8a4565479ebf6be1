"""[7.1], [7.2], [2.1], [0.2] (e) and [0.3]: drawings, and what they are read as."""

import unittest
from itertools import product

from beadrods.errors import NoManner, NoSetting, NoText
from beadrods.texts import read_setting, rod_text, setting_text
from going_through import (
    FEW_MANNERS, MANNERS, NO_MANNERS, NO_SETTINGS, SOROBAN, STRANGE, SUANPAN, rods_of, some_settings,
)

NO_TEXTS = [thing for thing in STRANGE if not isinstance(thing, str)] + [0, 1, [".o|.oooo\n"], ("o.|.oooo\n",)]


# Bead by bead: a deck of so many beads has one gap, behind as many as stand ahead of it.
def line_by_hand(manner, rod):
    signs = []
    for place in range(manner[0] + 1):
        signs.append("." if place == manner[0] - rod[0] else "o")
    signs.append("|")
    for place in range(manner[2] + 1):
        signs.append("." if place == rod[1] else "o")
    return "".join(signs)


def drawing_by_hand(manner, setting):
    return "".join(line_by_hand(manner, rod) + "\n" for rod in setting)


class Drawing(unittest.TestCase):
    def test_every_rod(self):
        for manner in MANNERS + FEW_MANNERS:
            for rod in rods_of(manner):
                self.assertEqual(rod_text(manner, rod), line_by_hand(manner, rod), (manner, rod))
                self.assertEqual(setting_text(manner, (rod,)), line_by_hand(manner, rod) + "\n", (manner, rod))

    def test_rods_written_out(self):
        for manner, rod, line in [
            (SOROBAN, (0, 0), "o.|.oooo"), (SOROBAN, (1, 0), ".o|.oooo"), (SOROBAN, (0, 1), "o.|o.ooo"),
            (SOROBAN, (1, 4), ".o|oooo."), (SUANPAN, (0, 0), "oo.|.ooooo"), (SUANPAN, (1, 2), "o.o|oo.ooo"),
            (SUANPAN, (2, 5), ".oo|ooooo."), ((0, 1, 1, 2), (0, 1), ".|o."), ((0, 1, 1, 2), (0, 0), ".|.o"),
            ((3, 1, 0, 2), (1, 0), "oo.o|."), ((3, 1, 0, 2), (3, 0), ".ooo|."), ((0, 1, 9, 10), (0, 6), ".|oooooo.ooo"),
        ]:
            self.assertEqual(rod_text(manner, rod), line)

    def test_settings_written_out(self):
        self.assertEqual(setting_text(SOROBAN, ((0, 1), (1, 0))), "o.|o.ooo\n.o|.oooo\n")
        self.assertEqual(setting_text(SOROBAN, ((1, 0), (0, 1))), ".o|.oooo\no.|o.ooo\n")
        self.assertEqual(setting_text((0, 1, 1, 2), ((0, 1), (0, 0), (0, 0), (0, 1))), ".|o.\n.|.o\n.|.o\n.|o.\n")

    def test_settings_of_all_lengths(self):
        for manner in MANNERS + FEW_MANNERS:
            for rods in (1, 2, 3, 4):
                for setting in some_settings(manner, rods, 60):
                    self.assertEqual(setting_text(manner, setting), drawing_by_hand(manner, setting))


class Reading(unittest.TestCase):
    def test_drawings_read_back(self):
        for manner in MANNERS + FEW_MANNERS:
            for rods in (1, 2, 3, 4):
                for setting in some_settings(manner, rods, 60):
                    self.assertEqual(read_setting(manner, drawing_by_hand(manner, setting)), setting, manner)

    def test_written_out(self):
        self.assertEqual(read_setting(SOROBAN, "o.|o.ooo\n.o|.oooo\n"), ((0, 1), (1, 0)))
        self.assertEqual(read_setting((3, 1, 0, 2), "oo.o|.\n"), ((1, 0),))

    # All texts of so few signs are gone through, so that none but the drawings is read.
    def test_nothing_else_is_read(self):
        for manner, longest in [((0, 1, 1, 2), 10), ((1, 1, 0, 2), 7)]:
            drawings = {}
            for rods in (1, 2, 3, 4):
                for setting in product(rods_of(manner), repeat=rods):
                    drawings[drawing_by_hand(manner, setting)] = setting
            read = 0
            for length in range(longest + 1):
                for signs in product("o.|\n", repeat=length):
                    read += self.check_text(manner, "".join(signs), drawings)
            self.assertEqual(read, sum(len(text) <= longest for text in drawings))

    def check_text(self, manner, text, drawings):
        try:
            told = read_setting(manner, text)
        except NoText:
            self.assertNotIn(text, drawings)
            return 0
        self.assertEqual(drawings.get(text), told)
        return 1


class NoDrawings(unittest.TestCase):
    def refused(self, manner, text):
        with self.assertRaises(NoText, msg=(manner, text)):
            read_setting(manner, text)

    def test_no_lines(self):
        for text in ("", "\n", "\n\n", " ", "a", "o", "\\n", "o.|.oooo\\n"):
            self.refused(SOROBAN, text)

    def test_line_feeds(self):
        for manner in FEW_MANNERS:
            for rods in (1, 2, 3, 4):
                text = drawing_by_hand(manner, (rods_of(manner)[-1],) * rods)
                for wrong in (text[:-1], text + "\n", "\n" + text, text.replace("\n", "\n\n"), text.replace("\n", "")):
                    self.refused(manner, wrong)

    def test_an_empty_line(self):
        line = "o.|.oooo\n"
        for wrong in (line + "\n" + line, line + line + "\n", "\n" + line + line, line + " \n" + line):
            self.refused(SOROBAN, wrong)

    def test_four_lines_and_five(self):
        for manner in FEW_MANNERS:
            line = drawing_by_hand(manner, rods_of(manner)[:1])
            self.assertEqual(read_setting(manner, line * 4), ((0, 0),) * 4)
            self.refused(manner, line * 5)
            self.refused(manner, line * 6)

    def test_a_line_left_out(self):
        text = "o.|o.ooo\n.o|.oooo\n"
        self.assertEqual(read_setting(SOROBAN, text[9:]), ((1, 0),))
        self.refused(SOROBAN, text[18:])

    def test_blanks(self):
        text = "o.|o.ooo\n.o|.oooo\n"
        for wrong in (" " + text, text + " ", text[:-1] + " \n", text.replace("\n", " \n"), text.replace("\n", "\n "),
                      text.replace("|", " | "), text.replace("|", "| ")):
            self.refused(SOROBAN, wrong)

    # With a sign left out, twice, exchanged or another one in its stead, the text may be another drawing.
    def check_near(self, manner, wrong, drawings):
        if wrong in drawings:
            self.assertEqual(read_setting(manner, wrong), drawings[wrong])
        else:
            self.refused(manner, wrong)

    def test_signs_of_two_rods(self):
        for manner in [SOROBAN, SUANPAN, (0, 1, 9, 10), (3, 1, 0, 2), (1, 1, 1, 3)]:
            drawings = {}
            for rods in (1, 2):
                for setting in product(rods_of(manner), repeat=rods):
                    drawings[drawing_by_hand(manner, setting)] = setting
            for text in list(drawings)[::7]:
                for at in range(len(text)):
                    self.check_near(manner, text[:at] + text[at + 1:], drawings)
                    self.check_near(manner, text[:at] + text[at] + text[at:], drawings)
                    self.check_near(manner, text[:at] + text[at:at + 2][::-1] + text[at + 2:], drawings)
                    for sign in "oO0.|: ~-\n":
                        self.check_near(manner, text[:at] + sign + text[at + 1:], drawings)
                        self.check_near(manner, text[:at] + sign + text[at:], drawings)

    def test_lines_of_another_manner(self):
        for manner, other in product(FEW_MANNERS, repeat=2):
            if manner != other:
                own, strange = drawing_by_hand(manner, ((0, 0),)), drawing_by_hand(other, ((0, 0),))
                for wrong in (strange, own + strange, strange + own, own + strange + own):
                    self.refused(manner, wrong)

    def test_signs_beyond_those_told(self):
        for wrong in ("o.|.oooo\r\n", "o.|.oooo\r", "o.|.oooo\x0b", "\u043e.|.oooo\n", "o.|.oooo\u2028"):
            self.refused(SOROBAN, wrong)

    def test_long_texts(self):
        for wrong in ("o" * 100000, "o.|.oooo\n" * 10000, "\n" * 10000):
            self.refused(SOROBAN, wrong)


class Refusals(unittest.TestCase):
    def test_what_is_no_text(self):
        for text in NO_TEXTS:
            with self.assertRaises(NoText):
                read_setting(SOROBAN, text)

    def test_no_manner_ahead_of_no_text(self):
        for manner in NO_MANNERS:
            for text in ["o.|.oooo\n", "", "a", None, 0, [], [[]]]:
                with self.assertRaises(NoManner):
                    read_setting(manner, text)

    def test_no_manner_ahead_of_no_setting(self):
        for manner in NO_MANNERS:
            for setting in [((0, 0),), None, 0, [], ((0, 9),)]:
                with self.assertRaises(NoManner):
                    setting_text(manner, setting)

    def test_no_setting(self):
        for setting in NO_SETTINGS:
            with self.assertRaises(NoSetting):
                setting_text(SOROBAN, setting)


if __name__ == "__main__":
    unittest.main()
