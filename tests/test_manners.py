"""[1.1], [1.2] and [0.3]: manners, and the rods that they have."""

import unittest
from itertools import product

from beadrods.errors import NoManner, NoNumber
from beadrods.manners import beads, counts, fewest_beads, is_manner, most_on_rod, rods_for
from going_through import MANNERS, STRANGE, is_manner_by_hand, rods_of, worth_of


class IsManner(unittest.TestCase):
    def test_all_within_the_bounds_and_one_beyond_either(self):
        for manner in product(range(-1, 5), range(0, 18), range(-1, 14), range(1, 18)):
            self.assertIs(is_manner(manner), is_manner_by_hand(manner), manner)

    def test_known_manners(self):
        for manner in MANNERS:
            with self.subTest(manner=manner):
                self.assertIs(is_manner(manner), True)

    def test_edges(self):
        for manner in [(0, 1, 1, 2), (3, 1, 0, 4), (3, 16, 12, 13), (0, 16, 12, 13), (3, 4, 3, 16), (1, 1, 0, 2)]:
            with self.subTest(manner=manner):
                self.assertIs(is_manner(manner), True)
        for manner in [(4, 1, 9, 10), (-1, 1, 9, 10), (1, 0, 9, 10), (1, 17, 9, 10), (1, 5, 13, 10),
                       (3, 1, -1, 2), (0, 1, 9, 1), (0, 1, 9, 0), (3, 4, 12, 17)]:
            with self.subTest(manner=manner):
                self.assertIs(is_manner(manner), False)

    def test_a_worth_below_the_base_is_that_of_no_rod(self):
        for manner in [(1, 5, 3, 10), (0, 1, 8, 10), (3, 16, 12, 14), (0, 1, 0, 2), (3, 1, 0, 5), (1, 5, 4, 11)]:
            with self.subTest(manner=manner):
                self.assertIs(is_manner(manner), False)

    def test_truths_are_no_whole_numbers(self):
        for manner in [(True, 5, 4, 10), (2, True, 9, 10), (0, 1, True, 2), (False, 1, 9, 10), (0, 1, 1, True)]:
            with self.subTest(manner=manner):
                self.assertIs(is_manner(manner), False)

    def test_strange_things(self):
        for thing in STRANGE + MANNERS_OUT_OF_FORM:
            self.assertIs(is_manner(thing), False)

    def test_what_is_asked_of_is_not_changed(self):
        thing = [[1, 5], [4, [10]], "a"]
        is_manner(thing)
        self.assertEqual(thing, [[1, 5], [4, [10]], "a"])


MANNERS_OUT_OF_FORM = [
    [1, 5, 4, 10], (1, 5, 4), (1, 5, 4, 10, 10), ((1, 5, 4, 10),), (1, 5, (4, 10)), (1, 5, 4, "10"),
    ("1", "5", "4", "10"), (1, 5, 4, None), (None, 5, 4, 10), (1, [5], 4, 10), 15410, "1541",
]
NO_MANNERS = STRANGE + MANNERS_OUT_OF_FORM + [(1, 5, 3, 10), (4, 5, 4, 10), (1, 5, 4, 17), (1, True, 9, 10)]
NO_WORTHS = STRANGE + [-1, 10000, (5,), [5], "5"]


class RodsFor(unittest.TestCase):
    def test_all_worths_in_several_manners(self):
        for manner in MANNERS:
            for worth in range(0, 70):
                expected = sorted(rod for rod in rods_of(manner) if worth_of(manner, rod) == worth)
                self.assertEqual(rods_for(manner, worth), expected, (manner, worth))

    def test_written_out(self):
        self.assertEqual(rods_for((2, 5, 5, 10), 10), [(1, 5), (2, 0)])
        self.assertEqual(rods_for((3, 1, 12, 16), 2), [(0, 2), (1, 1), (2, 0)])
        self.assertEqual(rods_for((1, 5, 4, 10), 0), [(0, 0)])
        self.assertEqual(rods_for((1, 5, 4, 10), 10), [])

    def test_bounds_of_worth(self):
        self.assertEqual(rods_for((1, 5, 4, 10), 9999), [])
        for worth in NO_WORTHS:
            with self.assertRaises(NoNumber):
                rods_for((1, 5, 4, 10), worth)

    def test_no_manner_ahead_of_no_number(self):
        for manner in NO_MANNERS:
            for worth in [0, -1, True, None, "a", [[]]]:
                with self.assertRaises(NoManner):
                    rods_for(manner, worth)

    def test_a_changed_list_is_told_as_before(self):
        told = rods_for((2, 5, 5, 10), 10)
        told.append("more")
        told[0] = "other"
        self.assertEqual(rods_for((2, 5, 5, 10), 10), [(1, 5), (2, 0)])


class MostOnRod(unittest.TestCase):
    def test_several_manners(self):
        for manner in MANNERS:
            with self.subTest(manner=manner):
                self.assertEqual(most_on_rod(manner), max(worth_of(manner, rod) for rod in rods_of(manner)))

    def test_written_out(self):
        self.assertEqual(most_on_rod((1, 5, 4, 10)), 9)
        self.assertEqual(most_on_rod((3, 16, 12, 13)), 60)

    def test_nothing_is_refused_somewhat_beyond_the_bounds(self):
        self.assertEqual(most_on_rod((4, 5, 4, 10)), 24)
        self.assertEqual(most_on_rod((1, 5, 3, 10)), 8)


class Counts(unittest.TestCase):
    def test_several_manners(self):
        for manner in MANNERS:
            worths = [worth_of(manner, rod) for rod in rods_of(manner)]
            with self.subTest(manner=manner):
                self.assertEqual(counts(manner), [worths.count(worth) for worth in range(max(worths) + 1)])

    def test_written_out(self):
        self.assertEqual(counts((2, 5, 5, 10)), [1, 1, 1, 1, 1, 2, 1, 1, 1, 1, 2, 1, 1, 1, 1, 1])
        self.assertEqual(counts((1, 16, 1, 2)), [1, 1] + [0] * 14 + [1, 1])

    def test_no_manner(self):
        for manner in NO_MANNERS:
            with self.assertRaises(NoManner):
                counts(manner)

    def test_a_changed_list_is_told_as_before(self):
        told = counts((1, 3, 2, 2))
        told.clear()
        self.assertEqual(counts((1, 3, 2, 2)), [1, 1, 1, 1, 1, 1])


class Beads(unittest.TestCase):
    def test_upper_and_lower_together(self):
        for upper, lower in product(range(4), range(13)):
            self.assertEqual(beads((upper, lower)), upper + lower)


class FewestBeads(unittest.TestCase):
    def test_all_worths_in_several_manners(self):
        for manner in MANNERS:
            for worth in {worth_of(manner, rod) for rod in rods_of(manner)}:
                those = [rod for rod in rods_of(manner) if worth_of(manner, rod) == worth]
                expected = min((sum(rod), rod) for rod in those)[1]
                self.assertEqual(fewest_beads(manner, worth), expected, (manner, worth))

    def test_written_out(self):
        self.assertEqual(fewest_beads((2, 5, 5, 10), 10), (2, 0))
        self.assertEqual(fewest_beads((2, 5, 5, 10), 5), (1, 0))

    def test_of_several_the_first(self):
        self.assertEqual(fewest_beads((3, 1, 12, 16), 2), (0, 2))
        self.assertEqual(fewest_beads((3, 1, 12, 16), 14), (2, 12))

    def test_nothing_is_refused_somewhat_beyond_the_bounds(self):
        self.assertEqual(fewest_beads((4, 5, 4, 10), 21), (4, 1))
        self.assertIsNone(fewest_beads((1, 5, 4, 10), 10))


if __name__ == "__main__":
    unittest.main()
