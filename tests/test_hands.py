"""[6.1], [0.2] (c) and [0.3]: hands that lay, add, take, push and go back."""

import unittest
from random import Random

from beadrods.errors import BeadError, NoManner, NoMove, NoNumber, Nothing, TooGreat
from beadrods.hands import Hand
from going_through import (
    FEW_MANNERS, MANNERS, NO_MANNERS, NO_NUMBERS, NO_ROD_NUMBERS, SOROBAN, STRANGE, SUANPAN, fewest_by_hand,
    number_by_hand, plain_by_hand, rods_of, worth_of,
)

# A manner whose four full rods have the number 142800.
GREAT = (3, 16, 12, 13)
NO_MOVES = STRANGE + [
    0, 1, (0, "lower"), (0, "lower", 1, 1), [0, "lower", 1], (0, "middle", 1), (0, "lower", 0), (0, "lower", 2),
    (0, "lower", True), (False, "lower", 1), (-1, "lower", 1), (4, "lower", 1), (0, "lower", -1), (0, "upper", -1),
    (0, "Lower", 1), ("0", "lower", 1), (0, ["lower"], 1), (0, None, 1), (0, "lower", None), (0, "lower", "1"),
]


# Rods are worths here, and carries go on until there is none; None stands for too great.
def added_by_hand(manner, setting, number):
    base, rods = manner[3], list(setting)
    if number >= base ** len(rods):
        return None
    for at in range(len(rods)):
        place, digit = at, number // base ** (len(rods) - 1 - at) % base
        while digit:
            if place < 0:
                return None
            digit, left = divmod(worth_of(manner, rods[place]) + digit, base)
            rods[place] = fewest_by_hand(manner, left)
            place -= 1
    return tuple(rods)


def laid_by_hand(manner, setting, number):
    return plain_by_hand(manner, len(setting), number) if 0 <= number < manner[3] ** len(setting) else None


def taken_by_hand(manner, setting, number):
    return laid_by_hand(manner, setting, number_by_hand(manner, setting) - number)


def pushed_by_hand(manner, setting, move):
    rod, deck, by = move
    beads = list(setting[rod])
    beads[("upper", "lower").index(deck)] += by
    fresh = setting[:rod] + (tuple(beads),) + setting[rod + 1:]
    return fresh if tuple(beads) in rods_of(manner) else None


BY_HAND = {"lay": laid_by_hand, "add": added_by_hand, "take": taken_by_hand, "push": pushed_by_hand}


class Fresh(unittest.TestCase):
    def test_nothing_counts(self):
        for manner in MANNERS + FEW_MANNERS:
            for rods in (1, 2, 3, 4):
                hand = Hand(manner, rods)
                self.assertEqual(hand.setting(), ((0, 0),) * rods)
                self.assertEqual(hand.value(), 0)
                self.assertEqual(hand.many(), 0)

    def test_nothing_can_be_taken_back(self):
        hand = Hand(SOROBAN, 3)
        for _ in range(2):
            with self.assertRaises(Nothing):
                hand.undo()
            self.assertEqual((hand.setting(), hand.value(), hand.many()), (((0, 0),) * 3, 0, 0))

    def test_no_number_of_rods(self):
        for rods in NO_ROD_NUMBERS:
            with self.assertRaises(NoNumber):
                Hand(SOROBAN, rods)

    def test_no_manner_ahead_of_no_number(self):
        for manner in NO_MANNERS:
            for rods in (1, 4, 0, 5, None, True, [[]]):
                with self.assertRaises(NoManner):
                    Hand(manner, rods)


class Deeds(unittest.TestCase):
    def look(self, hand, told, setting, number, many):
        self.assertEqual((told, hand.setting(), hand.value(), hand.many()), (number, setting, number, many))

    def test_one_behind_another(self):
        hand = Hand(SOROBAN, 3)
        self.look(hand, hand.lay(47), ((0, 0), (0, 4), (1, 2)), 47, 1)
        self.look(hand, hand.add(56), ((0, 1), (0, 0), (0, 3)), 103, 2)
        self.look(hand, hand.take(5), ((0, 0), (1, 4), (1, 3)), 98, 3)
        self.look(hand, hand.push((0, "upper", 1)), ((1, 0), (1, 4), (1, 3)), 598, 4)
        self.look(hand, hand.push((1, "lower", -1)), ((1, 0), (1, 3), (1, 3)), 588, 5)
        self.look(hand, hand.lay(0), ((0, 0),) * 3, 0, 6)
        self.look(hand, hand.undo(), ((1, 0), (1, 3), (1, 3)), 588, 5)
        self.look(hand, hand.undo(), ((1, 0), (1, 4), (1, 3)), 598, 4)
        self.look(hand, hand.add(1), ((1, 0), (1, 4), (1, 4)), 599, 5)
        self.look(hand, hand.undo(), ((1, 0), (1, 4), (1, 3)), 598, 4)
        self.look(hand, hand.undo(), ((0, 0), (1, 4), (1, 3)), 98, 3)
        self.look(hand, hand.undo(), ((0, 1), (0, 0), (0, 3)), 103, 2)
        self.look(hand, hand.undo(), ((0, 0), (0, 4), (1, 2)), 47, 1)
        self.look(hand, hand.undo(), ((0, 0),) * 3, 0, 0)
        with self.assertRaises(Nothing):
            hand.undo()
        self.look(hand, hand.add(999), ((1, 4),) * 3, 999, 1)

    def test_nought_is_a_deed_too(self):
        hand = Hand(SUANPAN, 2)
        self.look(hand, hand.add(0), ((0, 0), (0, 0)), 0, 1)
        self.look(hand, hand.take(0), ((0, 0), (0, 0)), 0, 2)
        self.look(hand, hand.lay(0), ((0, 0), (0, 0)), 0, 3)
        self.look(hand, hand.undo(), ((0, 0), (0, 0)), 0, 2)
        self.look(hand, hand.lay(15), ((0, 1), (1, 0)), 15, 3)
        self.look(hand, hand.lay(15), ((0, 1), (1, 0)), 15, 4)
        self.look(hand, hand.undo(), ((0, 1), (1, 0)), 15, 3)
        self.look(hand, hand.undo(), ((0, 0), (0, 0)), 0, 2)

    # Adding 0 leaves the rods as they are; taking 0 makes them plain.
    def test_a_rod_worth_the_base_and_more(self):
        hand = Hand(SUANPAN, 2)
        hand.lay(5)
        self.look(hand, hand.push((1, "upper", 1)), ((0, 0), (2, 0)), 10, 2)
        self.look(hand, hand.push((1, "lower", 1)), ((0, 0), (2, 1)), 11, 3)
        self.look(hand, hand.add(0), ((0, 0), (2, 1)), 11, 4)
        self.look(hand, hand.add(3), ((0, 1), (0, 4)), 14, 5)
        self.look(hand, hand.undo(), ((0, 0), (2, 1)), 11, 4)
        self.look(hand, hand.take(2), ((0, 0), (1, 4)), 9, 5)
        self.look(hand, hand.undo(), ((0, 0), (2, 1)), 11, 4)
        self.look(hand, hand.take(0), ((0, 1), (0, 1)), 11, 5)
        self.look(hand, hand.undo(), ((0, 0), (2, 1)), 11, 4)

    def test_a_first_rod_worth_the_base_and_more(self):
        hand = Hand(SUANPAN, 1)
        hand.lay(9)
        self.look(hand, hand.push((0, "upper", 1)), ((2, 4),), 14, 2)
        for deed in (lambda: hand.add(1), lambda: hand.take(4), lambda: hand.take(0), lambda: hand.take(15)):
            with self.assertRaises(TooGreat):
                deed()
            self.look(hand, 14, ((2, 4),), 14, 2)
        self.look(hand, hand.take(5), ((1, 4),), 9, 3)

    # What is there is beyond 99999, and yet nothing that is handed in is a wrong number.
    def test_numbers_beyond_99999(self):
        hand = Hand(GREAT, 4)
        for _ in range(3):
            hand.push((0, "upper", 1))
        self.look(hand, 105456, ((3, 0), (0, 0), (0, 0), (0, 0)), 105456, 3)
        with self.assertRaises(TooGreat):
            hand.take(1)
        self.look(hand, hand.add(1), ((3, 0), (0, 0), (0, 0), (0, 1)), 105457, 4)
        self.look(hand, hand.take(99999), plain_by_hand(GREAT, 4, 5458), 5458, 5)


class ManyDeeds(unittest.TestCase):
    def some_deed(self, dice, manner, hand):
        word = dice.choice(["lay", "add", "take", "push", "push"])
        if word == "push":
            rod = dice.randrange(len(hand.setting()))
            return word, (rod, dice.choice(["upper", "lower"]), dice.choice([1, -1]))
        most = manner[3] ** len(hand.setting())
        return word, dice.choice([0, 1, hand.value() % 99999, dice.randrange(most), dice.randrange(most * 2) % 99999])

    def check_deed(self, hand, manner, word, handed):
        before = (hand.setting(), hand.value(), hand.many())
        expected = BY_HAND[word](manner, before[0], handed)
        about = (manner, before, word, handed)
        if expected is None:
            with self.assertRaises(NoMove if word == "push" else TooGreat, msg=about):
                getattr(hand, word)(handed)
            self.assertEqual((hand.setting(), hand.value(), hand.many()), before, about)
            return False
        told = getattr(hand, word)(handed)
        number = number_by_hand(manner, expected)
        now = (told, hand.setting(), hand.value(), hand.many())
        self.assertEqual(now, (number, expected, number, before[2] + 1), about)
        return True

    def undo_all(self, hand, manner, past):
        while past:
            setting = past.pop()
            number = number_by_hand(manner, setting)
            now = (hand.undo(), hand.setting(), hand.value(), hand.many())
            self.assertEqual(now, (number, setting, number, len(past)), manner)
        with self.assertRaises(Nothing):
            hand.undo()

    # The dice are the same each time, so that a fault is found again.
    def test_all_manners_and_lengths(self):
        dice = Random(6)
        for manner in FEW_MANNERS + [GREAT, (1, 3, 2, 2)]:
            for rods in (1, 2, 3, 4):
                hand, past = Hand(manner, rods), []
                for _ in range(80):
                    word, handed = self.some_deed(dice, manner, hand)
                    before = hand.setting()
                    if self.check_deed(hand, manner, word, handed):
                        past.append(before)
                    if past and dice.randrange(4) == 0:
                        hand.undo()
                        self.assertEqual(hand.setting(), past.pop(), manner)
                self.undo_all(hand, manner, past)


class Refusals(unittest.TestCase):
    def ready(self):
        hand = Hand(SOROBAN, 2)
        hand.lay(90)
        hand.add(5)
        return hand

    def refused(self, hand, word, handed, error):
        with self.assertRaises(error, msg=(word, handed)):
            getattr(hand, word)(handed)
        self.assertEqual((hand.setting(), hand.value(), hand.many()), (((1, 4), (1, 0)), 95, 2), (word, handed))

    def test_no_number(self):
        hand = self.ready()
        for word in ("lay", "add", "take"):
            for number in NO_NUMBERS:
                self.refused(hand, word, number, NoNumber)

    def test_too_great(self):
        hand = self.ready()
        for word, numbers in [("lay", (100, 99999)), ("add", (5, 99, 100, 99999)), ("take", (96, 100, 99999))]:
            for number in numbers:
                self.refused(hand, word, number, TooGreat)

    def test_no_move(self):
        hand = self.ready()
        for move in STRANGE + [
            (0, "upper", 1), (0, "lower", 1), (1, "upper", 1), (1, "lower", -1), (2, "lower", 1), (-1, "lower", 1),
            (0, "lower"), (0, "lower", -1, 0), [0, "lower", -1], (0, "middle", -1), (0, "lower", 0), (0, "lower", -2),
            (False, "lower", -1), (1, "lower", True),
        ]:
            self.refused(hand, "push", move, NoMove)

    def test_no_move_of_a_fresh_hand(self):
        hand = Hand(SOROBAN, 4)
        for move in NO_MOVES:
            with self.assertRaises(NoMove):
                hand.push(move)
            self.assertEqual((hand.setting(), hand.many()), (((0, 0),) * 4, 0))

    # A deed that was refused is none that could be taken back.
    def test_going_back_behind_refusals(self):
        hand = self.ready()
        for word, handed in [("lay", 100), ("add", 5), ("take", 96), ("push", None), ("lay", True)]:
            with self.assertRaises(BeadError):
                getattr(hand, word)(handed)
        self.assertEqual((hand.undo(), hand.undo(), hand.many()), (90, 0, 0))


class Apart(unittest.TestCase):
    def test_two_hands_go_each_by_itself(self):
        one, other = Hand(SOROBAN, 2), Hand(SOROBAN, 2)
        one.lay(12)
        one.add(3)
        self.assertEqual((other.setting(), other.value(), other.many()), (((0, 0), (0, 0)), 0, 0))
        other.lay(40)
        one.undo()
        self.assertEqual((one.value(), one.many(), other.value(), other.many()), (12, 1, 40, 1))
        other.undo()
        with self.assertRaises(Nothing):
            other.undo()
        self.assertEqual((one.value(), one.many()), (12, 1))

    def test_asking_does_not_change_a_hand(self):
        hand = Hand(SUANPAN, 3)
        hand.lay(123)
        hand.push((2, "upper", 1))
        for _ in range(3):
            self.assertEqual(hand.setting(), ((0, 1), (0, 2), (1, 3)))
            self.assertEqual(hand.value(), 128)
            self.assertEqual(hand.many(), 2)
        self.assertEqual(hand.undo(), 123)

    def test_a_setting_told_stays_as_it_was(self):
        hand = Hand(SOROBAN, 1)
        before = hand.setting()
        hand.push((0, "lower", 1))
        self.assertEqual((before, hand.setting()), (((0, 0),), ((0, 1),)))


if __name__ == "__main__":
    unittest.main()
