"""[11.1], [11.2], [0.2] (i) and [0.3]: benches that keep settings under names, and go back and forth."""

import unittest
from random import Random

from beadrods.benches import Bench
from beadrods.errors import NoManner, NoMove, NoName, NoNumber, Nothing, TooGreat
from going_through import (
    FEW_MANNERS, MANNERS, NO_MANNERS, NO_NUMBERS, NO_ROD_NUMBERS, SOROBAN, STRANGE, SUANPAN, number_by_hand,
    plain_by_hand, rods_of,
)

# A manner whose four full rods have the number 142800.
GREAT = (3, 16, 12, 13)
NAMES = ["a", "z", "ab", "zzzzzz", "aaaaaa", "mid"]
NO_NAMES = [thing for thing in STRANGE if thing != "a"] + [
    0, 1, "abcdefg", "A", "Ab", "aB", "a1", "1", "a ", " a", " ", "a b", "a_b", "a-b", "a\n", "\n", "\u00e4", "\u00df",
    "a\u00e9", "\u0430", "`", "{", "a`", "a{", "aaaaaaa", ["a"], ("a",), "=", "= a", "a" * 5000,
]


# All that can be asked of a bench.
def look_at(bench):
    return (bench.setting(), bench.value(), bench.names(), bench.steps())


class Fresh(unittest.TestCase):
    def test_nothing_counts_and_no_name_is_there(self):
        for manner in MANNERS + FEW_MANNERS:
            for rods in (1, 2, 3, 4):
                self.assertEqual(look_at(Bench(manner, rods)), (((0, 0),) * rods, 0, [], (0, 0)))

    def test_nothing_to_take_back_or_do_again(self):
        bench = Bench(SOROBAN, 2)
        for go in (bench.back, bench.forth, bench.back):
            with self.assertRaises(Nothing):
                go()
            self.assertEqual(look_at(bench), (((0, 0),) * 2, 0, [], (0, 0)))

    def test_no_number_of_rods(self):
        for rods in NO_ROD_NUMBERS:
            with self.assertRaises(NoNumber):
                Bench(SOROBAN, rods)

    def test_no_manner_ahead_of_no_number(self):
        for manner in NO_MANNERS:
            for rods in (1, 4, 0, 5, None, True, [[]]):
                with self.assertRaises(NoManner):
                    Bench(manner, rods)


class Steps(unittest.TestCase):
    def look(self, bench, told, expected, setting, number, names, steps):
        self.assertEqual((told, look_at(bench)), (expected, (setting, number, names, steps)))

    def test_one_behind_another(self):
        bench = Bench(SOROBAN, 2)
        self.look(bench, bench.add(47), 47, ((0, 4), (1, 2)), 47, [], (1, 0))
        self.look(bench, bench.keep("b"), 47, ((0, 4), (1, 2)), 47, ["b"], (2, 0))
        self.look(bench, bench.take(8), 39, ((0, 3), (1, 4)), 39, ["b"], (3, 0))
        self.look(bench, bench.push((0, "upper", 1)), 89, ((1, 3), (1, 4)), 89, ["b"], (4, 0))
        self.look(bench, bench.keep("a"), 89, ((1, 3), (1, 4)), 89, ["a", "b"], (5, 0))
        self.look(bench, bench.recall("b"), 47, ((0, 4), (1, 2)), 47, ["a", "b"], (6, 0))
        self.look(bench, bench.recall("a"), 89, ((1, 3), (1, 4)), 89, ["a", "b"], (7, 0))
        self.look(bench, bench.back(), "recall", ((0, 4), (1, 2)), 47, ["a", "b"], (6, 1))
        self.look(bench, bench.back(), "recall", ((1, 3), (1, 4)), 89, ["a", "b"], (5, 2))
        self.look(bench, bench.back(), "keep", ((1, 3), (1, 4)), 89, ["b"], (4, 3))
        self.look(bench, bench.back(), "push", ((0, 3), (1, 4)), 39, ["b"], (3, 4))
        self.look(bench, bench.back(), "take", ((0, 4), (1, 2)), 47, ["b"], (2, 5))
        self.look(bench, bench.back(), "keep", ((0, 4), (1, 2)), 47, [], (1, 6))
        self.look(bench, bench.back(), "add", ((0, 0), (0, 0)), 0, [], (0, 7))
        with self.assertRaises(Nothing):
            bench.back()
        self.look(bench, bench.forth(), "add", ((0, 4), (1, 2)), 47, [], (1, 6))
        self.look(bench, bench.forth(), "keep", ((0, 4), (1, 2)), 47, ["b"], (2, 5))
        self.look(bench, bench.forth(), "take", ((0, 3), (1, 4)), 39, ["b"], (3, 4))
        self.look(bench, bench.forth(), "push", ((1, 3), (1, 4)), 89, ["b"], (4, 3))
        self.look(bench, bench.forth(), "keep", ((1, 3), (1, 4)), 89, ["a", "b"], (5, 2))
        self.look(bench, bench.forth(), "recall", ((0, 4), (1, 2)), 47, ["a", "b"], (6, 1))
        self.look(bench, bench.forth(), "recall", ((1, 3), (1, 4)), 89, ["a", "b"], (7, 0))
        with self.assertRaises(Nothing):
            bench.forth()
        self.assertEqual(look_at(bench), (((1, 3), (1, 4)), 89, ["a", "b"], (7, 0)))

    def test_another_step_behind_some_that_were_taken_back(self):
        for word, handed in [("add", 0), ("take", 0), ("push", (0, "lower", 1)), ("keep", "x"), ("recall", "k")]:
            bench = Bench(SOROBAN, 1)
            bench.keep("k")
            bench.add(3)
            bench.add(4)
            bench.back()
            bench.back()
            self.assertEqual(bench.steps(), (1, 2))
            getattr(bench, word)(handed)
            self.assertEqual(bench.steps(), (2, 0))
            with self.assertRaises(Nothing):
                bench.forth()
            self.assertEqual((bench.back(), bench.value(), bench.names(), bench.steps()), (word, 0, ["k"], (1, 1)))

    def test_steps_that_change_nothing_are_steps(self):
        bench = Bench(SOROBAN, 1)
        self.look(bench, bench.add(0), 0, ((0, 0),), 0, [], (1, 0))
        self.look(bench, bench.take(0), 0, ((0, 0),), 0, [], (2, 0))
        self.look(bench, bench.keep("a"), 0, ((0, 0),), 0, ["a"], (3, 0))
        self.look(bench, bench.keep("a"), 0, ((0, 0),), 0, ["a"], (4, 0))
        self.look(bench, bench.recall("a"), 0, ((0, 0),), 0, ["a"], (5, 0))
        self.assertEqual([bench.back() for _ in range(5)], ["recall", "keep", "keep", "take", "add"])
        self.assertEqual([bench.forth() for _ in range(5)], ["add", "take", "keep", "keep", "recall"])

    # Adding leaves a rod worth the base or more as it is, where its digit is 0; taking makes all rods plain.
    def test_rods_worth_the_base_and_more(self):
        bench = Bench(SUANPAN, 2)
        bench.add(5)
        self.look(bench, bench.push((1, "upper", 1)), 10, ((0, 0), (2, 0)), 10, [], (2, 0))
        self.look(bench, bench.keep("ten"), 10, ((0, 0), (2, 0)), 10, ["ten"], (3, 0))
        self.look(bench, bench.add(10), 20, ((0, 1), (2, 0)), 20, ["ten"], (4, 0))
        self.look(bench, bench.take(0), 20, ((0, 2), (0, 0)), 20, ["ten"], (5, 0))
        self.look(bench, bench.recall("ten"), 10, ((0, 0), (2, 0)), 10, ["ten"], (6, 0))
        self.look(bench, bench.add(1), 11, ((0, 1), (0, 1)), 11, ["ten"], (7, 0))

    # What is there is beyond 99999, and yet nothing that is handed in is a wrong number.
    def test_numbers_beyond_99999(self):
        bench = Bench(GREAT, 4)
        for _ in range(3):
            bench.push((0, "upper", 1))
        with self.assertRaises(TooGreat):
            bench.take(1)
        self.assertEqual((bench.keep("g"), bench.take(99999), bench.recall("g")), (105456, 5457, 105456))


class Keeping(unittest.TestCase):
    def test_under_a_name_anew(self):
        bench = Bench(SOROBAN, 2)
        for number in (1, 2, 3):
            bench.add(1)
            self.assertEqual((bench.keep("n"), bench.names()), (number, ["n"]))
        bench.add(10)
        self.assertEqual(bench.recall("n"), 3)
        # With the last keeping taken back, what was kept ahead of it is there again.
        self.assertEqual([bench.back() for _ in range(3)], ["recall", "add", "keep"])
        self.assertEqual((bench.value(), bench.recall("n"), bench.names()), (3, 2, ["n"]))

    def test_what_was_kept_whatever_came_since(self):
        bench = Bench(SUANPAN, 2)
        bench.push((1, "lower", 1))
        bench.push((1, "upper", 1))
        bench.push((1, "upper", 1))
        bench.keep("odd")
        for step in (lambda: bench.add(4), lambda: bench.take(9), lambda: bench.push((0, "lower", 1)),
                     lambda: bench.keep("other"), lambda: bench.recall("odd")):
            step()
        self.assertEqual((bench.recall("odd"), bench.setting()), (11, ((0, 0), (2, 1))))
        bench.take(11)
        self.assertEqual((bench.recall("odd"), bench.setting()), (11, ((0, 0), (2, 1))))

    def test_names_rise(self):
        bench = Bench(SOROBAN, 1)
        for name in NAMES:
            bench.keep(name)
        self.assertEqual(bench.names(), ["a", "aaaaaa", "ab", "mid", "z", "zzzzzz"])

    def test_names_is_a_new_list_each_time(self):
        bench = Bench(SOROBAN, 1)
        bench.names().append("a")
        self.assertEqual(bench.names(), [])
        with self.assertRaises(NoName):
            bench.recall("a")
        bench.keep("b")
        told = bench.names()
        told.clear()
        told.append("c")
        self.assertEqual(bench.names(), ["b"])
        self.assertIsNot(bench.names(), bench.names())
        self.assertEqual(bench.recall("b"), 0)

    def test_names_of_all_lengths_and_letters(self):
        bench = Bench(SOROBAN, 1)
        for name in ["abcdef"[:length] for length in range(1, 7)] + list("abcdefghijklmnopqrstuvwxyz"):
            self.assertEqual((bench.keep(name), bench.recall(name)), (0, 0))
        self.assertEqual(len(bench.names()), 31)

    def test_no_name(self):
        bench = Bench(SOROBAN, 2)
        bench.add(12)
        bench.keep("a")
        bench.add(1)
        bench.back()
        before = look_at(bench)
        for name in NO_NAMES:
            for ask in (bench.keep, bench.recall):
                with self.assertRaises(NoName, msg=name):
                    ask(name)
                self.assertEqual(look_at(bench), before)

    def test_a_name_that_is_not_there(self):
        bench = Bench(SOROBAN, 2)
        bench.add(12)
        bench.keep("ab")
        before = look_at(bench)
        for name in ("a", "b", "abc", "ba", "zzzzzz"):
            with self.assertRaises(NoName):
                bench.recall(name)
            self.assertEqual(look_at(bench), before)
        bench.back()
        with self.assertRaises(NoName):
            bench.recall("ab")
        bench.forth()
        self.assertEqual(bench.recall("ab"), 12)


class Refusals(unittest.TestCase):
    # With steps behind and ahead, so that a refusal that loses some of them is seen.
    def ready(self):
        bench = Bench(SOROBAN, 2)
        bench.add(95)
        bench.keep("k")
        bench.add(1)
        bench.add(1)
        bench.back()
        bench.back()
        return bench

    def refused(self, bench, word, handed, error):
        with self.assertRaises(error, msg=(word, handed)):
            getattr(bench, word)(handed)
        self.assertEqual(look_at(bench), (((1, 4), (1, 0)), 95, ["k"], (2, 2)), (word, handed))

    def test_no_number(self):
        bench = self.ready()
        for word in ("add", "take"):
            for number in NO_NUMBERS:
                self.refused(bench, word, number, NoNumber)

    def test_too_great(self):
        bench = self.ready()
        for word, numbers in [("add", (5, 99, 100, 99999)), ("take", (96, 100, 99999))]:
            for number in numbers:
                self.refused(bench, word, number, TooGreat)

    def test_no_move(self):
        bench = self.ready()
        for move in STRANGE + [
            (0, "upper", 1), (0, "lower", 1), (1, "upper", 1), (1, "lower", -1), (2, "lower", 1), (-1, "lower", 1),
            (0, "lower"), (0, "lower", -1, 0), [0, "lower", -1], (0, "middle", -1), (0, "lower", 0), (0, "lower", -2),
            (False, "lower", -1), (1, "lower", True),
        ]:
            self.refused(bench, "push", move, NoMove)

    def test_all_goes_on_behind_refusals(self):
        bench = self.ready()
        self.refused(bench, "add", 5, TooGreat)
        self.refused(bench, "recall", "x", NoName)
        self.refused(bench, "keep", "X", NoName)
        self.assertEqual((bench.forth(), bench.forth(), bench.value(), bench.steps()), ("add", "add", 97, (4, 0)))
        with self.assertRaises(Nothing):
            bench.forth()
        self.assertEqual([bench.back() for _ in range(4)], ["add", "add", "keep", "add"])
        with self.assertRaises(Nothing):
            bench.back()
        self.assertEqual(look_at(bench), (((0, 0), (0, 0)), 0, [], (0, 4)))


class Twins(unittest.TestCase):
    def ready(self):
        bench = Bench(SUANPAN, 2)
        bench.add(12)
        bench.keep("a")
        bench.push((1, "upper", 1))
        bench.keep("b")
        bench.add(30)
        bench.back()
        bench.back()
        return bench

    def test_as_the_other(self):
        bench = self.ready()
        before = look_at(bench)
        twin = bench.twin()
        self.assertIsNot(twin, bench)
        self.assertIsInstance(twin, Bench)
        self.assertEqual((look_at(twin), look_at(bench)), (before, before))

    def test_it_takes_back_and_does_again(self):
        twin = self.ready().twin()
        self.assertEqual([twin.forth(), twin.forth()], ["keep", "add"])
        self.assertEqual(look_at(twin), (((0, 4), (1, 2)), 47, ["a", "b"], (5, 0)))
        self.assertEqual([twin.back() for _ in range(5)], ["add", "keep", "push", "keep", "add"])
        self.assertEqual(look_at(twin), (((0, 0), (0, 0)), 0, [], (0, 5)))
        with self.assertRaises(Nothing):
            twin.back()

    def goings(self):
        return [
            lambda bench: bench.add(1), lambda bench: bench.take(1), lambda bench: bench.push((0, "lower", 1)),
            lambda bench: bench.keep("a"), lambda bench: bench.keep("new"), lambda bench: bench.recall("a"),
            lambda bench: bench.back(), lambda bench: bench.forth(), lambda bench: [bench.back(), bench.back()],
            lambda bench: [bench.add(1), bench.keep("a"), bench.keep("b"), bench.back(), bench.back(), bench.back()],
            lambda bench: [bench.forth(), bench.forth()], lambda bench: bench.twin().add(5),
            lambda bench: bench.names().append("c"),
        ]

    def test_what_is_done_at_either_leaves_the_other(self):
        for go in self.goings():
            for which in (0, 1):
                bench = self.ready()
                both = [bench, bench.twin()]
                before = look_at(both[1 - which])
                go(both[which])
                self.assertEqual(look_at(both[1 - which]), before)
                self.check_whole_way(both[1 - which])

    # What the ready bench holds, behind it and ahead of it, step by step.
    def check_whole_way(self, bench):
        self.assertEqual(bench.twin().recall("a"), 12)
        self.assertEqual([bench.forth(), bench.forth(), bench.value()], ["keep", "add", 47])
        self.assertEqual((bench.twin().recall("a"), bench.twin().recall("b")), (12, 17))
        self.assertEqual([bench.back() for _ in range(5)], ["add", "keep", "push", "keep", "add"])
        self.assertEqual(look_at(bench), (((0, 0), (0, 0)), 0, [], (0, 5)))

    def test_a_twin_of_a_twin(self):
        bench = self.ready()
        twin = bench.twin().twin()
        bench.add(1)
        self.assertEqual(twin.steps(), (3, 2))
        self.check_whole_way(twin)

    def test_two_benches_go_each_by_itself(self):
        one, other = Bench(SOROBAN, 2), Bench(SOROBAN, 2)
        one.add(1)
        one.keep("a")
        one.back()
        self.assertEqual(look_at(other), (((0, 0), (0, 0)), 0, [], (0, 0)))

    def test_asking_does_not_change_a_bench(self):
        bench = self.ready()
        before = look_at(bench)
        for _ in range(3):
            bench.twin()
            self.assertEqual(look_at(bench), before)
        self.check_whole_way(bench)


# The whole way as a list of states, and a place on it: another form than the program's own.
class BenchByHand:
    def __init__(self, manner, rods):
        self.manner, self.rods = manner, rods
        self.states, self.words, self.place = [(((0, 0),) * rods, {})], [], 0

    def state(self):
        return self.states[self.place]

    def go(self, word, setting, kept):
        del self.states[self.place + 1:], self.words[self.place:]
        self.states.append((setting, kept))
        self.words.append(word)
        self.place += 1
        return number_by_hand(self.manner, setting)

    def add(self, number):
        setting = self.state()[0]
        rods, base = list(setting), self.manner[3]
        left = [number // base ** (self.rods - 1 - at) % base for at in range(self.rods)]
        if number >= base ** self.rods:
            return TooGreat
        for at in range(self.rods):
            place, digit = at, left[at]
            while digit:
                if place < 0:
                    return TooGreat
                digit, rest = divmod(number_by_hand(self.manner, (rods[place],)) + digit, base)
                rods[place] = plain_by_hand(self.manner, 1, rest)[0]
                place -= 1
        return self.go("add", tuple(rods), self.state()[1])

    def take(self, number):
        left = number_by_hand(self.manner, self.state()[0]) - number
        if not 0 <= left < self.manner[3] ** self.rods:
            return TooGreat
        return self.go("take", plain_by_hand(self.manner, self.rods, left), self.state()[1])

    def push(self, move):
        rods = [list(rod) for rod in self.state()[0]]
        rods[move[0]][move[1] == "lower"] += move[2]
        if tuple(rods[move[0]]) not in rods_of(self.manner):
            return NoMove
        return self.go("push", tuple(tuple(rod) for rod in rods), self.state()[1])

    def keep(self, name):
        return self.go("keep", self.state()[0], {**self.state()[1], name: self.state()[0]})

    def recall(self, name):
        if name not in self.state()[1]:
            return NoName
        return self.go("recall", self.state()[1][name], self.state()[1])

    def back(self):
        if self.place == 0:
            return Nothing
        self.place -= 1
        return self.words[self.place]

    def forth(self):
        if self.place == len(self.words):
            return Nothing
        self.place += 1
        return self.words[self.place - 1]

    def twin(self):
        other = BenchByHand(self.manner, self.rods)
        other.states, other.words, other.place = list(self.states), list(self.words), self.place
        return other

    def look(self):
        setting, kept = self.state()
        steps = (self.place, len(self.words) - self.place)
        return (setting, number_by_hand(self.manner, setting), sorted(kept), steps)


class ManySteps(unittest.TestCase):
    def some_step(self, dice, manner, rods, value):
        word = dice.choice("add take push push keep recall back back back forth forth".split())
        if word in ("back", "forth"):
            return word, ()
        if word in ("keep", "recall"):
            return word, (dice.choice(["a", "b", "zz"]),)
        if word == "push":
            return word, ((dice.randrange(rods), dice.choice(["upper", "lower"]), dice.choice([1, -1])),)
        return word, (dice.choice([0, 1, value % 99999, dice.randrange(min(99999, manner[3] ** rods))]),)

    def check_step(self, bench, by_hand, word, handed):
        about = (by_hand.manner, by_hand.look(), word, handed)
        expected = getattr(by_hand, word)(*handed)
        if isinstance(expected, type):
            with self.assertRaises(expected, msg=about):
                getattr(bench, word)(*handed)
        else:
            self.assertEqual(getattr(bench, word)(*handed), expected, about)
        self.assertEqual(look_at(bench), by_hand.look(), about)

    # The dice are the same each time, so that a fault is found again.
    def test_all_manners_and_lengths(self):
        dice = Random(11)
        for manner in FEW_MANNERS + [GREAT, (1, 3, 2, 2)]:
            for rods in (1, 2, 3, 4):
                pairs = [(Bench(manner, rods), BenchByHand(manner, rods))]
                for at in range(150):
                    bench, by_hand = dice.choice(pairs)
                    self.check_step(bench, by_hand, *self.some_step(dice, manner, rods, bench.value()))
                    if at % 50 == 49:
                        pairs.append((bench.twin(), by_hand.twin()))
                    for each, other in pairs:
                        self.assertEqual(look_at(each), other.look())


if __name__ == "__main__":
    unittest.main()
