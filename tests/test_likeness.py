"""Promises 2, 37 and 38: turnings that keep a puzzle, layings turned, and classes of layings that are alike."""

import itertools
import unittest

from coverpieces.errors import NoLaying
from coverpieces.judge import judged
from coverpieces.likeness import classes, count_classes, first_of, keeping, kept_by, turned_laying
from coverpieces.numbers import laying_of, layings, number_of
from coverpieces.puzzles import is_puzzle
from coverpieces.table import count
from tests.helpers import SMALL, at, kinds_of, puzzle_of

ONE = kinds_of((0, None, "still", "A"))
ONES = kinds_of((0, None, "still", "A"), (0, None, "still", "B"))
TWOS = kinds_of((0, None, "turn", "AA"))
CHIRAL = "AA./.AA"

ALIKE = SMALL + (
    puzzle_of(".../.../...", kinds_of((0, 1, "still", "A"), (0, None, "turn", "BB"))),
    puzzle_of(",,,/,,,", kinds_of((0, 2, "turn", CHIRAL), (1, 2, "still", "A"))),
    puzzle_of(",,,/,,,/,,,", kinds_of((1, 2, "turn", "AB")), "AB", "BB"),
    puzzle_of("..,/..,", kinds_of((0, 3, "still", "A/B"), (0, None, "flip", "BA")), "AA"),
    puzzle_of("#../.../..#", kinds_of((0, 2, "flip", "AA/A."), (0, None, "turn", "BB"))),
    puzzle_of(".#,/.../,#.", kinds_of((0, None, "turn", "AA"), (0, 3, "still", "B")), "BB"),
    puzzle_of("..../....", kinds_of((1, 3, "turn", "AA"), (0, None, "turn", "BB")), "AB"),
    puzzle_of("..../..../..../....", TWOS),
    puzzle_of("a,/,A", kinds_of((0, None, "turn", "AB"), (0, 1, "still", "A"))),
    puzzle_of("ab/ba", kinds_of((0, None, "turn", "AB"), (0, 1, "still", "A"))),
)


def turned_cell(floor, cell, t):
    """The cell that a turning leads a cell of the floor to, step by step."""
    height, width = len(floor), len(floor[0])
    row, column = cell
    if t >= 4:
        column = width - 1 - column
    for step in range(t % 4):
        row, column = column, height - 1 - row
        height, width = width, height
    return (row, column)


def plainly_turned(puzzle, laying, t):
    """The laying turned, cell by cell, sorted."""
    found = []
    for spots, number in laying:
        found.append((tuple(sorted([turned_cell(puzzle[0], spot[:2], t) + spot[2:] for spot in spots])), number))
    return sorted(found)


def all_of(puzzle):
    return layings(puzzle, 0, 10 ** 59)


class KeepingTest(unittest.TestCase):
    def test_puzzles_are_puzzles(self):
        for puzzle in ALIKE:
            self.assertTrue(is_puzzle(puzzle), puzzle)

    def check(self, floor, kinds, asked):
        told = keeping(puzzle_of(floor, kinds))
        self.assertIsInstance(told, list)
        self.assertEqual(told, asked, (floor, kinds))

    def test_floors(self):
        self.check("../..", ONE, [0, 1, 2, 3, 4, 5, 6, 7])
        self.check(".", ONE, [0, 1, 2, 3, 4, 5, 6, 7])
        self.check(".../...", ONE, [0, 2, 4, 6])
        self.check(".,", ONE, [0, 6])
        self.check(".,.", ONE, [0, 2, 4, 6])
        self.check("./,", ONE, [0, 4])
        self.check(".,/..", ONE, [0, 5])
        self.check(",./..", ONE, [0, 7])
        self.check(".,/,.", ONE, [0, 2, 5, 7])
        self.check("..#/.../#..", ONE, [0, 2, 5, 7])
        self.check("ab/.,", ONE, [0])
        self.check(".#,/#.#/,#.", ONE, [0, 2, 5, 7])
        self.check(".,,./,..,/,..,/.,,.", ONE, [0, 1, 2, 3, 4, 5, 6, 7])
        self.check(",.,,/,,,./.,,,/,,.,", ONE, [0, 1, 2, 3])

    def test_each_sign_counts(self):
        for one, other in itertools.permutations("#.,AaBb", 2):
            self.check(one + one, ONE, [0, 2, 4, 6])
            self.check(one + other, ONE, [0, 6])

    def test_the_modes_of_a_kind(self):
        for mode, asked in (("still", [0]), ("turn", [0, 1, 2, 3]), ("flip", [0, 1, 2, 3, 4, 5, 6, 7])):
            self.check("../..", kinds_of((0, None, mode, "AB/CD")), asked)
        self.check("../..", kinds_of((0, None, "still", "AAA/.A.")), [0, 4])
        self.check("../..", kinds_of((0, None, "turn", "AAA/.A.")), [0, 1, 2, 3, 4, 5, 6, 7])
        self.check("../..", kinds_of((0, None, "still", CHIRAL)), [0, 2])
        self.check("../..", kinds_of((0, None, "turn", CHIRAL)), [0, 1, 2, 3])
        self.check("../..", kinds_of((0, None, "flip", CHIRAL)), [0, 1, 2, 3, 4, 5, 6, 7])
        self.check("../..", kinds_of((0, None, "still", "AA")), [0, 2, 4, 6])
        self.check("../..", kinds_of((0, None, "still", "AB")), [0, 6])
        self.check("../..", kinds_of((0, None, "still", "A/B")), [0, 4])
        self.check("../..", kinds_of((0, None, "turn", "AB")), [0, 1, 2, 3, 4, 5, 6, 7])
        self.check("../..", kinds_of((0, None, "still", "AB/B.")), [0, 7])

    def test_each_kind_counts(self):
        self.check("../..", kinds_of((0, 0, "still", "AA"), (0, None, "turn", "AB/C.")), [0, 2])
        self.check("../..", kinds_of((0, None, "turn", "AB/C."), (0, 0, "still", "AA")), [0, 2])
        self.check("../..", kinds_of((0, None, "still", "AA"), (0, None, "still", "A/A")), [0, 2, 4, 6])
        # Two kinds are not changed for one another.
        self.check("../..", kinds_of((0, None, "still", "AB"), (0, None, "still", "BA")), [0, 6])

    def test_both_floor_and_kinds(self):
        self.check("...", kinds_of((0, None, "turn", CHIRAL)), [0, 2])
        self.check(".,/..", kinds_of((0, None, "turn", CHIRAL)), [0])

    def test_pairs_are_no_matter(self):
        for pairs in ((), ("AB",), ("AA", "BB")):
            self.assertEqual(keeping(puzzle_of("../..", kinds_of((0, None, "still", "AB")), *pairs)), [0, 6])

    def test_told_list_is_the_askers_own(self):
        puzzle = puzzle_of("../..", ONE)
        keeping(puzzle).clear()
        self.assertEqual(keeping(puzzle), [0, 1, 2, 3, 4, 5, 6, 7])


class TurnedLayingTest(unittest.TestCase):
    def check(self, puzzle, laying, t, asked):
        told = turned_laying(puzzle, laying, t)
        self.assertIsInstance(told, list)
        self.assertEqual(told, asked, (puzzle, laying, t))

    def test_by_hand(self):
        puzzle = puzzle_of(",,/,,", ONE)
        self.check(puzzle, [at("A", 0, 0)], 0, [at("A", 0, 0)])
        self.check(puzzle, [at("A", 0, 0)], 1, [at("A", 0, 1)])
        self.check(puzzle, [at("A", 0, 0)], 2, [at("A", 1, 1)])
        self.check(puzzle, [at("A", 0, 0)], 3, [at("A", 1, 0)])
        self.check(puzzle, [at("A", 0, 1)], 4, [at("A", 0, 0)])
        self.check(puzzle, [at("A", 0, 1)], 5, [at("A", 0, 1)])
        self.check(puzzle, [at("A", 0, 1)], 6, [at("A", 1, 1)])
        self.check(puzzle, [at("A", 0, 1)], 7, [at("A", 1, 0)])

    def test_by_the_floor_not_by_the_laying(self):
        puzzle = puzzle_of(",,,/,,,/,,,", kinds_of((0, None, "turn", "AB")))
        self.check(puzzle, [at("AB", 0, 0)], 1, [at("A/B", 0, 2)])
        self.check(puzzle, [at("AB", 0, 0)], 2, [at("BA", 2, 1)])
        self.check(puzzle, [at("AB", 0, 0)], 3, [at("B/A", 1, 0)])
        self.check(puzzle, [at("AB", 0, 0)], 4, [at("BA", 0, 1)])

    def test_closed_cells_are_of_the_floor(self):
        puzzle = puzzle_of("###/#,#/###/#,#/###", ONE)
        self.check(puzzle, [at("A", 1, 1)], 2, [at("A", 3, 1)])
        self.check(puzzle, [at("A", 1, 1)], 4, [at("A", 1, 1)])

    def test_long_floors(self):
        puzzle = puzzle_of(",,,,/,,,,", ONES)
        self.check(puzzle, [at("A", 0, 0), at("B", 1, 1, 1)], 2, [at("B", 0, 2, 1), at("A", 1, 3)])
        self.check(puzzle, [at("A", 0, 0), at("B", 1, 1, 1)], 6, [at("B", 0, 1, 1), at("A", 1, 0)])

    def test_in_any_order(self):
        puzzle = puzzle_of(",,/,,", ONES)
        laying = [at("B", 1, 1, 1), at("A", 0, 0), at("B", 0, 1, 1)]
        for other in itertools.permutations(laying):
            self.check(puzzle, list(other), 0, sorted(laying))
            self.check(puzzle, list(other), 1, [at("A", 0, 1), at("B", 1, 0, 1), at("B", 1, 1, 1)])

    def test_nothing_laid(self):
        for t in range(8):
            self.check(puzzle_of(",,/,,", ONE), [], t, [])

    def test_small_puzzles(self):
        for puzzle in ALIKE:
            for t in keeping(puzzle):
                for laying in all_of(puzzle)[:60]:
                    self.check(puzzle, laying, t, plainly_turned(puzzle, laying, t))
                    self.assertEqual(judged(puzzle, turned_laying(puzzle, laying, t)), ("good",), (puzzle, t))

    def test_handed_in_stays_and_told_is_the_askers_own(self):
        puzzle = puzzle_of(",,/,,", ONES)
        for t in range(8):
            laying = [at("B", 1, 1, 1), at("A", 0, 0)]
            told = turned_laying(puzzle, laying, t)
            self.assertEqual(laying, [at("B", 1, 1, 1), at("A", 0, 0)])
            kept = list(told)
            laying.clear()
            self.assertEqual(told, kept)
            told.append("more")
            self.assertEqual(turned_laying(puzzle, [at("B", 1, 1, 1), at("A", 0, 0)], t), kept)


class FirstOfTest(unittest.TestCase):
    def check(self, puzzle, laying, asked):
        told = first_of(puzzle, laying)
        self.assertIsInstance(told, list)
        self.assertEqual(told, asked, (puzzle, laying))

    def test_by_hand(self):
        puzzle = puzzle_of(",,/,,", ONE)
        cells = [(0, 0), (0, 1), (1, 0), (1, 1)]
        for cell in cells:
            self.check(puzzle, [at("A", *cell)], [at("A", 1, 1)])
            self.check(puzzle, [at("A", *other) for other in cells if other != cell],
                       [at("A", 0, 1), at("A", 1, 0), at("A", 1, 1)])
        for one, other in (((0, 0), (0, 1)), ((0, 1), (1, 1)), ((1, 1), (1, 0)), ((1, 0), (0, 0))):
            self.check(puzzle, [at("A", *one), at("A", *other)], [at("A", 1, 0), at("A", 1, 1)])
        for one, other in (((0, 0), (1, 1)), ((1, 0), (0, 1))):
            self.check(puzzle, [at("A", *one), at("A", *other)], [at("A", 0, 1), at("A", 1, 0)])
        self.check(puzzle, [], [])

    def test_where_only_0_keeps(self):
        puzzle = puzzle_of(",b/a,", kinds_of((0, None, "still", "AB")))
        self.assertEqual(keeping(puzzle), [0])
        for laying in all_of(puzzle):
            self.check(puzzle, laying, laying)

    def test_the_least_number_of_all_alike(self):
        for puzzle in ALIKE:
            for laying in all_of(puzzle)[:80]:
                alike = [plainly_turned(puzzle, laying, t) for t in keeping(puzzle)]
                least = min(number_of(puzzle, other) for other in alike)
                self.check(puzzle, laying, laying_of(puzzle, least))
                self.check(puzzle, laying[::-1], laying_of(puzzle, least))

    def test_among_many(self):
        puzzle = puzzle_of("/".join(["........"] * 8), TWOS)
        across = [at("AA", row, column) for row in range(8) for column in range(0, 8, 2)]
        self.check(puzzle, laying_of(puzzle, 12988815), across)

    def test_refused(self):
        puzzle = puzzle_of(".,,", kinds_of((0, 2, "still", "A"), (0, 0, "still", "B"), (0, None, "still", "C")), "AC")
        self.check(puzzle, [at("A", 0, 0)], [at("A", 0, 0)])
        for laying, word in (([], "bare"), ([at("A", 0, 1)], "bare"), ([at("A", 0, 3)], "piece"),
                             ([at("A", 0, 0, 1)], "piece"), ([at("A", 0, 0), at("A", 0, 0)], "twice"),
                             ([at("A", 0, 0), at("C", 0, 1, 2)], "apart"), ([at("B", 0, 0, 1)], "count"),
                             ([at("A", 0, column) for column in range(3)], "count")):
            self.assertEqual(judged(puzzle, laying)[0], word)
            with self.assertRaises(NoLaying):
                first_of(puzzle, laying)

    def test_handed_in_stays_and_told_is_the_askers_own(self):
        puzzle = puzzle_of(",b/a,", kinds_of((0, None, "still", "A")))
        laying = [at("A", 1, 1), at("A", 0, 0)]
        told = first_of(puzzle, laying)
        self.assertEqual(laying, [at("A", 1, 1), at("A", 0, 0)])
        laying.clear()
        self.assertEqual(told, [at("A", 0, 0), at("A", 1, 1)])
        told.clear()
        self.assertEqual(first_of(puzzle, [at("A", 0, 0), at("A", 1, 1)]), [at("A", 0, 0), at("A", 1, 1)])


class ClassesTest(unittest.TestCase):
    def test_by_hand(self):
        self.assertEqual(classes(puzzle_of(",,/,,", ONE)), [
            [], [at("A", 1, 1)], [at("A", 1, 0), at("A", 1, 1)], [at("A", 0, 1), at("A", 1, 0)],
            [at("A", 0, 1), at("A", 1, 0), at("A", 1, 1)],
            [at("A", 0, 0), at("A", 0, 1), at("A", 1, 0), at("A", 1, 1)],
        ])
        self.assertEqual(classes(puzzle_of("../..", TWOS)), [[at("AA", 0, 0), at("AA", 1, 0)]])
        self.assertEqual(classes(puzzle_of("#", ONE)), [[]])
        self.assertEqual(classes(puzzle_of("B", ONE)), [])

    def test_known_numbers(self):
        self.assertEqual(len(classes(puzzle_of("..../..../..../....", TWOS))), 9)
        self.assertEqual(len(classes(puzzle_of("...../...../...../.....", TWOS))), 33)

    def test_each_laying_in_one_class(self):
        for puzzle in ALIKE:
            found = {}
            told = classes(puzzle)
            self.assertIsInstance(told, list)
            for first in told:
                self.assertIsInstance(first, list)
                alike = sorted({tuple(plainly_turned(puzzle, first, t)) for t in keeping(puzzle)})
                for other in alike:
                    self.assertNotIn(other, found, puzzle)
                    found[other] = True
                numbers = [number_of(puzzle, list(other)) for other in alike]
                self.assertEqual(number_of(puzzle, first), min(numbers), puzzle)
            self.assertEqual(sorted(found), sorted(tuple(laying) for laying in all_of(puzzle)), puzzle)

    def test_by_rising_numbers(self):
        for puzzle in ALIKE:
            numbers = [number_of(puzzle, laying) for laying in classes(puzzle)]
            self.assertEqual(numbers, sorted(set(numbers)), puzzle)

    def test_classes_times_turnings(self):
        for puzzle in ALIKE:
            turnings = keeping(puzzle)
            kept = sum(kept_by(puzzle, t) for t in turnings)
            self.assertEqual(len(classes(puzzle)) * len(turnings), kept, puzzle)
            self.assertEqual(count_classes(puzzle), len(classes(puzzle)), puzzle)

    def test_told_lists_are_the_askers_own(self):
        puzzle = puzzle_of(",,/,,", ONE)
        kept = classes(puzzle)
        told = classes(puzzle)
        for laying in told:
            laying.append("more")
        told.clear()
        self.assertEqual(classes(puzzle), kept)


class KeptByTest(unittest.TestCase):
    def test_by_hand(self):
        self.assertEqual([kept_by(puzzle_of(",,/,,", ONE), t) for t in range(8)], [16, 2, 4, 2, 4, 8, 4, 8])
        self.assertEqual([kept_by(puzzle_of("../..", TWOS), t) for t in range(8)], [2, 0, 2, 0, 2, 0, 2, 0])
        self.assertEqual([kept_by(puzzle_of("#", ONE), t) for t in range(8)], [1] * 8)
        self.assertEqual([kept_by(puzzle_of("B", ONE), t) for t in range(8)], [0] * 8)

    def test_layings_turned_one_by_one(self):
        for puzzle in ALIKE:
            for t in keeping(puzzle):
                told = kept_by(puzzle, t)
                self.assertIsInstance(told, int)
                kept = [laying for laying in all_of(puzzle) if plainly_turned(puzzle, laying, t) == laying]
                self.assertEqual(told, len(kept), (puzzle, t))

    def test_signs_apart_within_a_ring(self):
        for floor in (",,", ",,,,", ",,/,,", ",,,/,,,"):
            for pairs in (("AA",), ("AB",), ("BB",), ("AA", "AB", "BB")):
                puzzle = puzzle_of(floor, kinds_of((0, None, "still", "A"), (0, 2, "turn", "AB")), *pairs)
                for t in keeping(puzzle):
                    kept = [laying for laying in all_of(puzzle) if plainly_turned(puzzle, laying, t) == laying]
                    self.assertEqual(kept_by(puzzle, t), len(kept), (puzzle, t))

    def test_bounds(self):
        for least, most in ((0, 0), (0, 1), (1, 1), (1, 2), (2, 3), (3, 3), (0, None), (2, None), (3, None), (5, 9)):
            puzzle = puzzle_of(",,,/,,,", kinds_of((least, most, "still", "A"), (0, 1, "turn", "BB")))
            for t in keeping(puzzle):
                kept = [laying for laying in all_of(puzzle) if plainly_turned(puzzle, laying, t) == laying]
                self.assertEqual(kept_by(puzzle, t), len(kept), (puzzle, t))

    def test_0_keeps_all(self):
        for puzzle in ALIKE:
            self.assertEqual(kept_by(puzzle, 0), count(puzzle), puzzle)

    def test_among_many(self):
        puzzle = puzzle_of("/".join(["........"] * 8), TWOS)
        self.assertEqual([kept_by(puzzle, t) for t in range(8)], [12988816, 44, 5280, 44, 19664, 0, 19664, 0])
        self.assertEqual(count_classes(puzzle), 1629189)

    def test_handed_in_stays(self):
        puzzle = puzzle_of(",,/,,", ONES, "AB")
        for t in keeping(puzzle):
            kept_by(puzzle, t)
        self.assertEqual(puzzle, puzzle_of(",,/,,", ONES, "AB"))


if __name__ == "__main__":
    unittest.main()
