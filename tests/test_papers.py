"""[12.1], [0.2] (i) and [0.3]: papers of benches, and what they are read as."""

import re
import unittest
from itertools import product

from beadrods.benches import Bench
from beadrods.errors import NoText, Nothing
from beadrods.papers import bench_text, read_bench
from going_through import (
    FEW_MANNERS, MANNERS, SOROBAN, STRANGE, SUANPAN, is_manner_by_hand, number_by_hand, rods_of, some_settings,
)

PLAIN_PAPER = "1 5 4 10\no.|o.ooo\n.o|.oooo\n"
PAPER = "2 5 5 10\noo.|o.oooo\no.o|oo.ooo\n= a\noo.|.ooooo\n.oo|.ooooo\n= bc\n.oo|ooooo.\noo.|ooooo.\n"
NO_TEXTS = [thing for thing in STRANGE if not isinstance(thing, str)] + [0, 1, [PLAIN_PAPER], (PLAIN_PAPER,)]


def line_by_hand(manner, rod):
    upper = "o" * manner[0]
    lower = "o" * manner[2]
    return upper[rod[0]:] + "." + upper[:rod[0]] + "|" + lower[:rod[1]] + "." + lower[rod[1]:]


def paper_by_hand(manner, setting, kept):
    lines = ["%d %d %d %d" % manner] + [line_by_hand(manner, rod) for rod in setting]
    for name in sorted(kept):
        lines += ["= " + name] + [line_by_hand(manner, rod) for rod in kept[name]]
    return "".join(line + "\n" for line in lines)


# Line by line: another way than the program's own. None stands for no paper.
def read_by_hand(text):
    lines = re.findall("[^\n]*\n", text)
    if "".join(lines) != text or not lines:
        return None
    if not re.fullmatch("(0|[1-9][0-9]?)( (0|[1-9][0-9]?)){3}\n", lines[0]):
        return None
    manner = tuple(int(part) for part in lines[0].split())
    if not is_manner_by_hand(manner):
        return None
    known = {line_by_hand(manner, rod) + "\n": rod for rod in rods_of(manner)}
    drawings = [("", [])]
    for line in lines[1:]:
        named = re.fullmatch("= ([a-z]{1,6})\n", line)
        if named:
            drawings.append((named.group(1), []))
        elif line in known:
            drawings[-1][1].append(known[line])
        else:
            return None
    rods = len(drawings[0][1])
    names = [name for name, _ in drawings]
    if not 1 <= rods <= 4 or any(len(setting) != rods for _, setting in drawings):
        return None
    if any(one >= other for one, other in zip(names, names[1:])):
        return None
    return manner, tuple(drawings[0][1]), {name: tuple(setting) for name, setting in drawings[1:]}


# Moves alone lead to any setting.
def push_to(bench, setting):
    for at, rod in enumerate(setting):
        for deck, name in enumerate(("upper", "lower")):
            while bench.setting()[at][deck] != rod[deck]:
                bench.push((at, name, 1 if bench.setting()[at][deck] < rod[deck] else -1))


def bench_with(manner, setting, kept):
    bench = Bench(manner, len(setting))
    for name in kept:
        push_to(bench, kept[name])
        bench.keep(name)
    push_to(bench, setting)
    return bench


def kept_of(bench):
    twin = bench.twin()
    told = {}
    for name in bench.names():
        twin.recall(name)
        told[name] = twin.setting()
    return told


def some_benches(manner):
    for rods in (1, 2, 3, 4):
        several = some_settings(manner, rods, 12)
        for at, setting in enumerate(several):
            yield setting, {}
            yield setting, {"only": several[-at]}
            yield setting, {"zz": several[at - 1], "a": setting, "abcdef": several[at // 2], "b": several[0]}


class Writing(unittest.TestCase):
    def test_written_out(self):
        bench = Bench(SOROBAN, 2)
        self.assertEqual(bench_text(bench), "1 5 4 10\no.|.oooo\no.|.oooo\n")
        bench.add(15)
        self.assertEqual(bench_text(bench), PLAIN_PAPER)
        bench.keep("x")
        bench.take(15)
        self.assertEqual(bench_text(bench), "1 5 4 10\no.|.oooo\no.|.oooo\n= x\no.|o.ooo\n.o|.oooo\n")
        bench.back()
        bench.back()
        self.assertEqual(bench_text(bench), PLAIN_PAPER)

    def test_several_names(self):
        bench = bench_with(SUANPAN, ((0, 1), (1, 2)), {"bc": ((2, 5), (0, 5)), "a": ((0, 0), (2, 0))})
        self.assertEqual(bench_text(bench), PAPER)

    def test_all_manners_and_lengths(self):
        for manner in MANNERS + FEW_MANNERS:
            for setting, kept in some_benches(manner):
                bench = bench_with(manner, setting, kept)
                self.assertEqual(bench_text(bench), paper_by_hand(manner, setting, kept))

    def test_asking_does_not_change_a_bench(self):
        bench = bench_with(SUANPAN, ((0, 1), (1, 2)), {"bc": ((2, 5), (0, 5)), "a": ((0, 0), (2, 0))})
        bench.back()
        before = (bench.setting(), bench.names(), bench.steps())
        self.assertEqual(bench_text(bench), bench_text(bench))
        self.assertEqual((bench.setting(), bench.names(), bench.steps()), before)


class Reading(unittest.TestCase):
    def check_bench(self, bench, manner, setting, kept):
        self.assertIsInstance(bench, Bench)
        self.assertEqual(bench.setting(), setting)
        self.assertEqual(bench.value(), number_by_hand(manner, setting))
        self.assertEqual(bench.names(), sorted(kept))
        self.assertEqual(bench.steps(), (0, 0))
        self.assertEqual(kept_of(bench), kept)
        self.assertEqual(bench.steps(), (0, 0))

    def test_all_manners_and_lengths(self):
        for manner in MANNERS + FEW_MANNERS:
            for setting, kept in some_benches(manner):
                text = paper_by_hand(manner, setting, kept)
                bench = read_bench(text)
                self.check_bench(bench, manner, setting, kept)
                self.assertEqual(bench_text(bench), text)

    def test_written_out(self):
        self.check_bench(read_bench(PLAIN_PAPER), SOROBAN, ((0, 1), (1, 0)), {})
        self.check_bench(read_bench(PAPER), SUANPAN, ((0, 1), (1, 2)), {"a": ((0, 0), (2, 0)), "bc": ((2, 5), (0, 5))})

    def test_no_steps(self):
        bench = read_bench(PAPER)
        for go in (bench.back, bench.forth):
            with self.assertRaises(Nothing):
                go()
        self.assertEqual((bench.steps(), bench_text(bench)), ((0, 0), PAPER))

    def test_gone_on_with(self):
        bench = read_bench(PAPER)
        self.assertEqual((bench.add(3), bench.setting(), bench.steps()), (20, ((0, 2), (0, 0)), (1, 0)))
        self.assertEqual((bench.recall("a"), bench.setting(), bench.steps()), (10, ((0, 0), (2, 0)), (2, 0)))
        self.assertEqual((bench.push((0, "lower", 1)), bench.keep("ab"), bench.keep("a")), (20, 20, 20))
        self.assertEqual((bench.names(), bench.take(1), bench.recall("bc")), (["a", "ab", "bc"], 19, 155))
        words = [bench.back() for _ in range(7)]
        self.assertEqual(words, ["recall", "take", "keep", "keep", "push", "recall", "add"])
        self.assertEqual((bench_text(bench), bench.steps()), (PAPER, (0, 7)))
        with self.assertRaises(Nothing):
            bench.back()

    def test_a_new_bench_each_time(self):
        one, other = read_bench(PAPER), read_bench(PAPER)
        one.keep("new")
        one.take(1)
        self.assertEqual(bench_text(other), PAPER)
        self.assertEqual(bench_text(read_bench(PAPER)), PAPER)

    def test_twins_of_one_that_was_read(self):
        bench = read_bench(PAPER)
        twin = bench.twin()
        twin.keep("a")
        self.assertEqual((bench_text(bench), bench.recall("a"), twin.recall("a")), (PAPER, 10, 17))

    def test_many_names(self):
        kept = {first + second: ((0, 1),) for first, second in product("abcdefghij", repeat=2)}
        text = paper_by_hand(SOROBAN, ((0, 0),), kept)
        self.assertEqual((read_bench(text).names(), bench_text(read_bench(text))), (sorted(kept), text))


class NoPapers(unittest.TestCase):
    def refused(self, text):
        self.assertIsNone(read_by_hand(text), text)
        with self.assertRaises(NoText, msg=text):
            read_bench(text)

    # A text that was made out of a paper may be another paper: then it is read as that.
    def check_near(self, text):
        found = read_by_hand(text)
        if found is None:
            self.refused(text)
            return 0
        bench = read_bench(text)
        self.assertEqual(bench_text(bench), text)
        self.assertEqual((bench.setting(), kept_of(bench)), found[1:], text)
        return 1

    def test_what_is_no_text(self):
        for thing in NO_TEXTS:
            with self.assertRaises(NoText):
                read_bench(thing)

    def test_hardly_any_text(self):
        for text in ("", "\n", " ", "a", "= ", "= a\n", "=", "\n= a\n", "1 5 4 10", "1 5 4 10\n", "1 5 4 10\n\n",
                     "o.|.oooo\n", "\no.|.oooo\n", "1 5 4 10 o.|.oooo\n", "1 5 4 10\n= a\n",
                     "1 5 4 10\n= a\no.|.oooo\n"):
            self.refused(text)

    def test_numbers_written_otherwise(self):
        for line in ("01 5 4 10", "1 05 4 10", "1 5 04 10", "1 5 4 010", "+1 5 4 10", "1 +5 4 10", "1 5 4 +10",
                     "-1 5 4 10", "-0 5 4 10", "1  5 4 10", "1 5  4 10", "1 5 4  10", " 1 5 4 10", "1 5 4 10 ",
                     "1,5,4,10", "1 5 4", "1 5 4 10 0", "1 5 4 1_0", "1 5 4 10.0", "(1, 5, 4, 10)", "1 5 4 a",
                     "one 5 4 10", "1 5 4 ", "1 5 4 1 0", "1\n5 4 10", "", " ", "1 5 4 -10", "1 5 0x4 10",
                     "1 5 4 10 10"):
            self.refused(line + "\no.|.oooo\n")

    def test_a_first_line_that_is_no_manner(self):
        for line in ("1 5 3 10", "1 5 4 11", "4 5 4 10", "1 17 4 10", "1 0 4 10", "1 5 13 10", "1 5 4 17", "1 5 4 1",
                     "1 5 4 0", "0 5 4 10", "1 5 4 16", "99 5 4 10", "1 5 4 10000", "1 6 4 10"):
            self.refused(line + "\no.|.oooo\n")

    def test_line_feeds(self):
        for text in (PLAIN_PAPER, PAPER):
            self.refused(text[:-1])
            self.refused("\n" + text)
            self.refused(text + "\n")
            self.refused(text + "\n\n")
            self.refused(text.replace("\n", ""))
            self.refused(text.replace("\n", "\r\n"))
            for at in range(len(text)):
                self.refused(text[:at] + "\n" + text[at:])
                if text[at] == "\n":
                    self.refused(text[:at] + text[at + 1:])

    def test_rods_of_the_drawing(self):
        line = "o.|.oooo\n"
        for rods in range(1, 5):
            self.assertEqual(read_bench("1 5 4 10\n" + line * rods).setting(), ((0, 0),) * rods)
        for rods in (0, 5, 6):
            self.refused("1 5 4 10\n" + line * rods)
            self.refused("1 5 4 10\n" + line * rods + "= a\n" + line * rods)

    def test_unlike_lengths(self):
        line = "o.|.oooo\n"
        for one, other in product(range(6), repeat=2):
            text = "1 5 4 10\n" + line * one + "= a\n" + line * other
            self.assertEqual(self.check_near(text), 1 if one == other and 1 <= one <= 4 else 0)
            for third in range(1, 5):
                text = "1 5 4 10\n" + line * one + "= a\n" + line * other + "= b\n" + line * third
                self.assertEqual(self.check_near(text), 1 if one == other == third else 0)

    def test_names(self):
        line = "o.|.oooo\n"
        for name in ("", "A", "abcdefg", "a b", "a1", "1", " a", "a ", "= a", "=", "-", "\u00e4", "aB", "_"):
            self.refused("1 5 4 10\n" + line + "= " + name + "\n" + line)
        for head in ("=a", "a", " = a", "=  a", "== a", "=\ta", "# a", "= a = b", "o a"):
            self.refused("1 5 4 10\n" + line + head + "\n" + line)
        for name in ("a", "z", "abcdef", "zzzzzz"):
            self.assertEqual(read_bench("1 5 4 10\n" + line + "= " + name + "\n" + line).names(), [name])

    def test_names_that_are_not_rising(self):
        line = "o.|.oooo\n"
        for names in ("ba", "aa", "aba", "acb", "bac", "aab", "abb", "abca", "cba"):
            self.refused("1 5 4 10\n" + line + "".join("= " + name + "\n" + line for name in names))
        for names in (["a", "ab", "b"], ["a", "b", "c"], ["aa", "ab", "b"]):
            text = "1 5 4 10\n" + line + "".join("= " + name + "\n" + line for name in names)
            self.assertEqual(read_bench(text).names(), names)
        for names in (["ab", "a"], ["b", "aa"], ["a", "aa", "aa"]):
            self.refused("1 5 4 10\n" + line + "".join("= " + name + "\n" + line for name in names))

    def test_a_name_without_a_drawing(self):
        line = "o.|.oooo\n"
        for tail in ("= a\n", "= a", "= a\n= b\n" + line, "= a\n" + line + "= b\n", "= a\n\n", "= a\n= a\n" + line):
            self.refused("1 5 4 10\n" + line + tail)

    def test_lines_exchanged_left_out_and_twice(self):
        for text in (PLAIN_PAPER, PAPER, paper_by_hand((1, 1, 1, 3), ((0, 1),), {"a": ((1, 1),), "b": ((0, 0),)})):
            lines = text.splitlines(True)
            for at in range(len(lines)):
                self.check_near("".join(lines[:at] + lines[at + 1:]))
                self.check_near("".join(lines[:at] + [lines[at]] + lines[at:]))
                for other in range(at):
                    exchanged = list(lines)
                    exchanged[at], exchanged[other] = lines[other], lines[at]
                    self.check_near("".join(exchanged))
            self.refused("".join(lines[1:]))
            self.refused(lines[0] + text)

    def test_signs_left_out_twice_exchanged_and_others(self):
        texts = [PLAIN_PAPER, PAPER, paper_by_hand((0, 1, 1, 2), ((0, 1), (0, 0)), {"ab": ((0, 0), (0, 0))}),
                 paper_by_hand((3, 16, 12, 13), ((3, 12),), {"a": ((0, 1),), "b": ((1, 12),)})]
        papers = 0
        for text in texts:
            for at in range(len(text)):
                papers += self.check_near(text[:at] + text[at + 1:])
                papers += self.check_near(text[:at] + text[at] + text[at:])
                papers += self.check_near(text[:at] + text[at:at + 2][::-1] + text[at + 2:])
                for sign in "o.|= \n0159abzA~+-":
                    papers += self.check_near(text[:at] + sign + text[at + 1:])
                    papers += self.check_near(text[:at] + sign + text[at:])
        # Some of these are papers: names of other letters, another base, beads that are pushed.
        self.assertGreater(papers, 20)

    def test_lines_of_another_manner(self):
        for manner, other in product(FEW_MANNERS, repeat=2):
            if manner != other:
                own, strange = line_by_hand(manner, (0, 0)) + "\n", line_by_hand(other, (0, 0)) + "\n"
                first = "%d %d %d %d\n" % manner
                for tail in (strange, own + strange, strange + own, own + "= a\n" + strange):
                    self.refused(first + tail)

    def test_signs_beyond_those_told(self):
        for wrong in (PLAIN_PAPER.replace("1", "\u0661"), PLAIN_PAPER.replace(" ", "\u00a0"),
                      PLAIN_PAPER.replace("\n", "\u2028"), PLAIN_PAPER.replace("o", "\u043e")):
            with self.assertRaises(NoText):
                read_bench(wrong)

    def test_long_texts(self):
        line = "o.|.oooo\n"
        for wrong in ("1" * 100000 + "\n" + line, "1 " * 50000 + "\n" + line, "1 5 4 10\n" + line * 20000,
                      "1 5 4 10\n" + line + ("= a\n" + line) * 5000, "\n= " * 50000, "\n" * 100000):
            with self.assertRaises(NoText):
                read_bench(wrong)


if __name__ == "__main__":
    unittest.main()
