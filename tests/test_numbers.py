"""Promises 2, 3 and 29: layings by number."""

import itertools
import unittest

from coverpieces.errors import NoLaying, NoNumber
from coverpieces.floors import open_cells
from coverpieces.judge import judged
from coverpieces.numbers import laying_of, layings, number_of
from coverpieces.table import count
from tests.helpers import SMALL, at, kinds_of, puzzle_of, tried_layings

ONE = kinds_of((0, None, "still", "A"))
ONES = kinds_of((0, None, "still", "A"), (0, None, "still", "B"))
TWOS = kinds_of((0, None, "turn", "AB"))
WHOLE = puzzle_of("/".join(["........"] * 8), kinds_of((0, None, "turn", "AA")))


def steps_of(puzzle, laying):
    """The options that a laying takes, cell by cell; none stands ahead of any placement."""
    first_ones = {spots[0][:2]: (spots, number) for spots, number in laying}
    covered = [spot[:2] for spots, number in laying for spot in spots]
    steps = []
    for cell in open_cells(puzzle[0]):
        if cell in first_ones:
            steps.append((1, first_ones[cell]))
        elif cell not in covered:
            steps.append((0,))
    return steps


def in_order(puzzle):
    """All layings that keep a puzzle, tried one by one, in the order of the document's words."""
    return [list(laying) for laying in sorted(tried_layings(puzzle), key=lambda laying: steps_of(puzzle, laying))]


class LayingOfTest(unittest.TestCase):
    def check(self, puzzle, asked):
        """Asked are all layings, in their order."""
        for number, laying in enumerate(asked):
            told = laying_of(puzzle, number)
            self.assertIsInstance(told, list)
            self.assertEqual(told, laying, (puzzle, number))
        self.refused(puzzle, len(asked))

    def refused(self, puzzle, *numbers):
        for number in numbers:
            with self.assertRaises(NoNumber):
                laying_of(puzzle, number)

    def test_left_ahead_of_covered(self):
        self.check(puzzle_of(",,", ONE), [[], [at("A", 0, 1)], [at("A", 0, 0)], [at("A", 0, 0), at("A", 0, 1)]])

    def test_placements_by_their_order(self):
        self.check(puzzle_of("../..", TWOS), [
            [at("AB", 0, 0), at("AB", 1, 0)], [at("AB", 0, 0), at("BA", 1, 0)],
            [at("A/B", 0, 0), at("A/B", 0, 1)], [at("A/B", 0, 0), at("B/A", 0, 1)],
            [at("BA", 0, 0), at("AB", 1, 0)], [at("BA", 0, 0), at("BA", 1, 0)],
            [at("B/A", 0, 0), at("A/B", 0, 1)], [at("B/A", 0, 0), at("B/A", 0, 1)],
        ])

    def test_choices_without_layings_are_passed_over(self):
        self.check(puzzle_of(",,.", kinds_of((1, 1, "still", "AA"), (0, 1, "still", "A"))), [
            [at("AA", 0, 1)], [at("A", 0, 0, 1), at("AA", 0, 1)], [at("AA", 0, 0), at("A", 0, 2, 1)],
        ])

    def test_the_one_laying_of_nothing(self):
        self.check(puzzle_of("#", ONE), [[]])
        self.check(puzzle_of("b", ONE), [[]])
        self.check(puzzle_of(",,", kinds_of((0, 0, "still", "A"))), [[]])

    def test_no_laying(self):
        for puzzle in (puzzle_of("B", ONE), puzzle_of("#", kinds_of((1, 1, "still", "A")))):
            self.check(puzzle, [])
            self.refused(puzzle, -1, 0, 1, 10 ** 59)

    def test_all_layings_of_small_puzzles(self):
        for puzzle in SMALL:
            self.check(puzzle, in_order(puzzle))

    def test_numbers_out_of_bounds(self):
        for puzzle in SMALL:
            many = count(puzzle)
            self.refused(puzzle, -1, -2, -many, -many - 1, -(10 ** 59), many, many + 1, 10 ** 59)

    def test_each_keeps_the_puzzle_and_is_sorted(self):
        for puzzle in SMALL:
            for number in range(count(puzzle)):
                told = laying_of(puzzle, number)
                self.assertEqual(judged(puzzle, told), ("good",), (puzzle, number))
                self.assertEqual(told, sorted(told), (puzzle, number))

    def test_many_layings(self):
        across = [at("AA", row, column) for row in range(8) for column in range(0, 8, 2)]
        down = sorted([at("A/A", row, column) for row in range(0, 8, 2) for column in range(8)])
        self.assertEqual(laying_of(WHOLE, 0), across)
        self.assertEqual(laying_of(WHOLE, 12988815), down)
        self.refused(WHOLE, 12988816, -1)

    def test_greater_than_machine_numbers(self):
        puzzle = puzzle_of("/".join([",,,,,,,,"] * 8), ONE)
        covered = [at("A", row, column) for row in range(8) for column in range(8)]
        self.assertEqual(laying_of(puzzle, 2 ** 64 - 1), covered)
        self.assertEqual(laying_of(puzzle, 2 ** 63), covered[:1])
        self.assertEqual(laying_of(puzzle, 2 ** 56 - 1), covered[8:])
        self.refused(puzzle, 2 ** 64)

    def test_told_list_is_the_askers_own(self):
        puzzle = puzzle_of("../..", TWOS)
        told = laying_of(puzzle, 3)
        kept = list(told)
        told.reverse()
        told.append("more")
        self.assertEqual(laying_of(puzzle, 3), kept)


class NumberOfTest(unittest.TestCase):
    def check(self, puzzle, laying, asked):
        """Ask for the number of a laying in every order of its placements, where they are few."""
        told = number_of(puzzle, laying)
        self.assertIsInstance(told, int)
        self.assertNotIsInstance(told, bool)
        self.assertEqual(told, asked, (puzzle, laying))
        if len(laying) < 4:
            for other in itertools.permutations(laying):
                self.assertEqual(number_of(puzzle, list(other)), asked, (puzzle, other))
        self.assertEqual(number_of(puzzle, laying[::-1]), asked, (puzzle, laying))

    def refused(self, puzzle, laying, word):
        self.assertEqual(judged(puzzle, laying)[0], word)
        with self.assertRaises(NoLaying):
            number_of(puzzle, laying)
        with self.assertRaises(NoLaying):
            number_of(puzzle, laying[::-1])

    def test_by_hand(self):
        puzzle = puzzle_of(",,", ONE)
        self.check(puzzle, [], 0)
        self.check(puzzle, [at("A", 0, 1)], 1)
        self.check(puzzle, [at("A", 0, 0)], 2)
        self.check(puzzle, [at("A", 0, 0), at("A", 0, 1)], 3)
        self.check(puzzle_of("../..", TWOS), [at("B/A", 0, 0), at("A/B", 0, 1)], 6)
        self.check(puzzle_of("#", ONE), [], 0)

    def test_each_number_leads_back(self):
        for puzzle in SMALL:
            for number, laying in enumerate(in_order(puzzle)):
                self.check(puzzle, laying, number)
                self.assertEqual(number_of(puzzle, laying_of(puzzle, number)), number, puzzle)

    def test_many_layings(self):
        for number in (0, 1, 1000000, 6494408, 12988814, 12988815):
            laying = laying_of(WHOLE, number)
            self.assertEqual(number_of(WHOLE, laying), number)
            self.assertEqual(number_of(WHOLE, laying[::-1]), number)
            self.assertEqual(number_of(WHOLE, laying[7:] + laying[:7]), number)

    def test_no_placement(self):
        self.refused(puzzle_of(",,", ONE), [at("A", 0, 2)], "piece")
        self.refused(puzzle_of(",,", ONE), [at("A", 0, 0), at("B", 0, 1)], "piece")
        self.refused(puzzle_of(",,", ONE), [at("A", 0, 0, 1)], "piece")
        self.refused(puzzle_of(",#", ONE), [at("A", 0, 1)], "piece")
        self.refused(puzzle_of(",b", ONE), [at("A", 0, 1)], "piece")
        self.refused(puzzle_of(",,", TWOS), [(at("AB", 0, 0)[0][::-1], 0)], "piece")

    def test_covered_twice(self):
        self.refused(puzzle_of(",,", ONE), [at("A", 0, 0), at("A", 0, 0)], "twice")
        self.refused(puzzle_of(",,,", TWOS), [at("AB", 0, 0), at("AB", 0, 1)], "twice")
        self.refused(puzzle_of(",,", ONES), [at("A", 0, 1), at("B", 0, 1, 1)], "twice")

    def test_bare(self):
        self.refused(puzzle_of(".", ONE), [], "bare")
        self.refused(puzzle_of(",A", ONE), [at("A", 0, 0)], "bare")

    def test_apart(self):
        self.refused(puzzle_of(",,", ONES, "AB"), [at("A", 0, 0), at("B", 0, 1, 1)], "apart")
        self.refused(puzzle_of(",/,", ONES, "AA"), [at("A", 0, 0), at("A", 1, 0)], "apart")

    def test_count(self):
        self.refused(puzzle_of(",,", kinds_of((1, 1, "still", "A"))), [], "count")
        self.refused(puzzle_of(",,", kinds_of((1, None, "still", "A"))), [], "count")
        self.refused(puzzle_of(",,", kinds_of((0, 1, "still", "A"))), [at("A", 0, 0), at("A", 0, 1)], "count")
        self.refused(puzzle_of("#", kinds_of((1, 2, "still", "A"))), [], "count")

    def test_handed_in_stays(self):
        puzzle = puzzle_of("../..", TWOS)
        laying = [at("BA", 1, 0), at("AB", 0, 0)]
        told = number_of(puzzle, laying)
        self.assertEqual(laying, [at("BA", 1, 0), at("AB", 0, 0)])
        self.assertEqual(puzzle, puzzle_of("../..", TWOS))
        laying.clear()
        self.assertEqual(told, 1)


class LayingsTest(unittest.TestCase):
    def check(self, puzzle, start, many, asked):
        told = layings(puzzle, start, many)
        self.assertIsInstance(told, list)
        self.assertEqual(told, asked, (puzzle, start, many))

    def test_from_start_on_so_many(self):
        puzzle = puzzle_of(",,", ONE)
        all_of_them = [[], [at("A", 0, 1)], [at("A", 0, 0)], [at("A", 0, 0), at("A", 0, 1)]]
        for start in range(7):
            for many in range(7):
                self.check(puzzle, start, many, all_of_them[start:start + many])

    def test_small_puzzles(self):
        for puzzle in SMALL:
            asked = in_order(puzzle)
            self.check(puzzle, 0, len(asked), asked)
            self.check(puzzle, 0, len(asked) + 1, asked)
            self.check(puzzle, 0, 10 ** 59, asked)
            self.check(puzzle, 1, 3, asked[1:4])
            self.check(puzzle, len(asked), 2, [])
            self.check(puzzle, max(len(asked) - 1, 0), 2, asked[-1:])
            self.check(puzzle, 10 ** 59, 10 ** 59, [])
            self.check(puzzle, 0, 0, [])

    def test_unless_told_the_first_two(self):
        for puzzle in SMALL:
            asked = in_order(puzzle)
            self.assertEqual(layings(puzzle), asked[:2])
            self.assertEqual(layings(puzzle, 1), asked[1:3])
            self.assertEqual(layings(puzzle, many=1), asked[:1])
            self.assertEqual(layings(puzzle, start=1, many=1), asked[1:2])

    def test_among_many(self):
        told = layings(WHOLE, 12988800, 100)
        self.assertEqual(len(told), 16)
        self.assertEqual([number_of(WHOLE, laying) for laying in (told[0], told[15])], [12988800, 12988815])
        self.assertEqual(told, sorted(told))

    def test_beyond_the_bounds(self):
        puzzle = puzzle_of(",", ONE)
        self.check(puzzle, -1, 2, [[], [at("A", 0, 0)]])
        self.check(puzzle, 0, -1, [])

    def test_told_lists_are_the_askers_own(self):
        puzzle = puzzle_of("../..", TWOS)
        kept = in_order(puzzle)
        told = layings(puzzle, 0, 8)
        for laying in told:
            laying.clear()
        told.clear()
        self.assertEqual(layings(puzzle, 0, 8), kept)
        self.assertEqual(laying_of(puzzle, 5), kept[5])

    def test_handed_in_stays(self):
        puzzle = puzzle_of("../..", TWOS)
        layings(puzzle)
        laying_of(puzzle, 0)
        self.assertEqual(puzzle, puzzle_of("../..", TWOS))


if __name__ == "__main__":
    unittest.main()
