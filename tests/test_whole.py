"""Promise 3, over the whole program: what counts, layings, papers and classes have to do with one another."""

import unittest

from coverpieces.cases import cases, going, right_tree
from coverpieces.floors import turned_floor
from coverpieces.judge import judged
from coverpieces.likeness import classes, first_of, keeping, kept_by, turned_laying
from coverpieces.numbers import laying_of, layings, number_of
from coverpieces.puzzles import is_puzzle
from coverpieces.sums import is_mixture, show_none, sums
from coverpieces.table import count, table
from coverpieces.turning import then, turned, undoing
from tests.helpers import BARRED, SMALL, at, kinds_of, puzzle_of

PUZZLES = SMALL + BARRED + (
    puzzle_of("...../...../...../.....", kinds_of((0, None, "turn", "AA"))),
    puzzle_of(",,,,/,#b,/a,,,", kinds_of((1, 2, "flip", "AB/A."), (2, None, "turn", "AC")), "AA", "BC"),
    puzzle_of("..../..../..../....", kinds_of((0, None, "still", "AB"), (2, 4, "turn", "CC/C."), (0, 1, "still", "A"))),
    puzzle_of(",,,,/,,,,/,,,,", kinds_of((3, 4, "still", "A"), (0, 1, "turn", "AAA/B..")), "AA"),
)


def turned_puzzle(puzzle, t):
    """The puzzle with its floor and its forms turned."""
    floor, kinds, apart = puzzle
    return (turned_floor(floor, t), tuple([kind[:4] + (turned(kind[4], t),) for kind in kinds]), apart)


def cells_that_may_be_left(floor):
    return [(row, column) for row, signs in enumerate(floor) for column, sign in enumerate(signs)
            if sign == "," or sign.islower()]


def with_sign(puzzle, cell, sign):
    """The puzzle with another sign at one of the floor's cells."""
    floor = list(puzzle[0])
    row = floor[cell[0]]
    floor[cell[0]] = row[:cell[1]] + sign + row[cell[1] + 1:]
    return (tuple(floor),) + puzzle[1:]


def beside(floor, other):
    """Two floors with a closed column between; the lower one is filled up with closed rows."""
    high = max(len(floor), len(other))
    left = floor + ("#" * len(floor[0]),) * (high - len(floor))
    right = other + ("#" * len(other[0]),) * (high - len(other))
    return tuple([row + "#" + more for row, more in zip(left, right)])


def below(floor, other):
    """Two floors with a closed row between; the narrower one is filled up with closed columns."""
    wide = max(len(floor[0]), len(other[0]))
    rows = floor + ("",) + other
    return tuple([row + "#" * (wide - len(row)) for row in rows])


def exactly(kinds, numbers):
    """The kinds with so many of each laid."""
    return tuple([(kind[0], many, many) + kind[3:] for kind, many in zip(kinds, numbers)])


def shares(kinds):
    """All numbers of each kind up to most, and up to 6, as tuples."""
    found = [()]
    for name, least, most, mode, form in kinds:
        found = [numbers + (many,) for numbers in found for many in range(7) if most is None or many <= most]
    return found


def keeps_bounds(kinds, numbers):
    """Whether so many of each kind may be laid."""
    return all(kind[1] <= many and (kind[2] is None or many <= kind[2]) for kind, many in zip(kinds, numbers))


class LayingsTest(unittest.TestCase):
    def test_puzzles_are_puzzles(self):
        for puzzle in PUZZLES:
            self.assertTrue(is_puzzle(puzzle), puzzle)

    def test_all_layings_each_once_and_back(self):
        for puzzle in PUZZLES:
            many = min(count(puzzle), 60)
            told = layings(puzzle, 0, many)
            self.assertEqual(len(told), many)
            self.assertEqual(len({tuple(laying) for laying in told}), many)
            for laying in told:
                self.assertEqual(judged(puzzle, laying), ("good",), (puzzle, laying))
            for number in (0, many // 3, many - 1):
                if many:
                    self.assertEqual(laying_of(puzzle, number), told[number])
                    self.assertEqual(number_of(puzzle, told[number]), number)

    def test_the_last_ones(self):
        for puzzle in PUZZLES:
            many = count(puzzle)
            for number in range(max(many - 3, 0), many):
                laying = laying_of(puzzle, number)
                self.assertEqual(judged(puzzle, laying), ("good",), (puzzle, laying))
                self.assertEqual(number_of(puzzle, laying), number)


class CountsTest(unittest.TestCase):
    def test_turned(self):
        for puzzle in PUZZLES:
            for t in range(8):
                self.assertEqual(count(turned_puzzle(puzzle, t)), count(puzzle), (puzzle, t))

    def test_cells_that_may_be_left_are_covered_or_as_good_as_closed(self):
        for puzzle in PUZZLES:
            for cell in cells_that_may_be_left(puzzle[0]):
                sign = puzzle[0][cell[0]][cell[1]]
                must = with_sign(puzzle, cell, "." if sign == "," else sign.upper())
                closed = with_sign(puzzle, cell, "#")
                self.assertEqual(count(puzzle), count(must) + count(closed), (puzzle, cell))

    def test_put_together_with_as_many_as_you_like(self):
        kinds = kinds_of((0, None, "turn", "AB"), (0, None, "still", "A"))
        floors = (("..", ".,"), (",,,",), ("A", "."), ("B",), ("#",), (",", "b", ","))
        for pairs in ((), ("AA",), ("AB", "BB")):
            for floor in floors:
                for other in floors:
                    asked = count(puzzle_of("/".join(floor), kinds, *pairs))
                    asked *= count(puzzle_of("/".join(other), kinds, *pairs))
                    for both in (beside(floor, other), below(floor, other)):
                        self.assertEqual(count(puzzle_of("/".join(both), kinds, *pairs)), asked, both)

    def test_put_together_with_bounds(self):
        for bounds in ((1, 3), (2, 2), (0, 1), (3, None)):
            kinds = kinds_of(bounds + ("turn", "AB"), (0, 2, "still", "A"))
            for floor, other in (((",,", ",,"), (",,,",)), (("..", ".."), (".", ",")), (("a,",), (",b", "#,"))):
                asked = 0
                for numbers in shares(kinds):
                    for more in shares(kinds):
                        if keeps_bounds(kinds, [one + two for one, two in zip(numbers, more)]):
                            one = count((floor, exactly(kinds, numbers), (("A", "A"),)))
                            asked += one and one * count((other, exactly(kinds, more), (("A", "A"),)))
                for both in (beside(floor, other), below(floor, other)):
                    self.assertEqual(count((both, kinds, (("A", "A"),))), asked, (both, kinds))

    def test_more_bounds_never_add(self):
        for puzzle in PUZZLES:
            floor, kinds, apart = puzzle
            free = tuple([(kind[0], 0, None) + kind[3:] for kind in kinds])
            self.assertLessEqual(count(puzzle), count((floor, free, apart)))
            self.assertLessEqual(count(puzzle), count((floor, kinds, ())))

    def test_counts_of_all_numbers_sum_up(self):
        for floor in (",,,/,,,", "..,/.,,"):
            for least, most in ((0, 6), (0, None), (1, 4), (2, None)):
                free = count(puzzle_of(floor, kinds_of((least, most, "turn", "AB"), (0, None, "still", "C")), "BC"))
                parts = [count(puzzle_of(floor, kinds_of((many, many, "turn", "AB"), (0, None, "still", "C")), "BC"))
                         for many in range(least, 7 if most is None else most + 1)]
                self.assertEqual(free, sum(parts), (floor, least, most))


class TableTest(unittest.TestCase):
    def test_each_count_is_the_sum_of_the_next_ones(self):
        for puzzle in PUZZLES:
            rows = table(puzzle)
            for state, choices, many in rows:
                if choices:
                    self.assertEqual(many, sum(rows[number][2] for option, number in choices), (puzzle, state))


class PapersTest(unittest.TestCase):
    def test_a_tree_just_where_there_is_no_laying(self):
        for puzzle in PUZZLES:
            word, told = cases(puzzle)
            self.assertEqual(word == "none", count(puzzle) == 0, puzzle)
            if word == "none":
                self.assertTrue(right_tree(puzzle, [], told), puzzle)
            else:
                self.assertEqual(laying_of(puzzle, number_of(puzzle, told)), told, puzzle)

    def test_weights_or_a_mixture(self):
        for puzzle in PUZZLES:
            for p in (2, 3, 5, 7, 97):
                word, told = sums(puzzle, p)
                if word == "weights":
                    self.assertTrue(show_none(puzzle, p, told), (puzzle, p))
                    self.assertEqual(count(puzzle), 0, (puzzle, p))
                else:
                    self.assertTrue(is_mixture(puzzle, p, told), (puzzle, p))

    def test_layings_are_mixtures(self):
        for puzzle in PUZZLES:
            for laying in layings(puzzle, 0, 10):
                for p in (2, 3, 97):
                    self.assertTrue(is_mixture(puzzle, p, [(placement, 1) for placement in laying]), (puzzle, laying))

    def test_what_is_left_of_a_laying_goes_with_the_rest(self):
        for puzzle in PUZZLES:
            for laying in layings(puzzle, 0, 5):
                for k, placement in enumerate(laying):
                    self.assertIn(placement, going(puzzle, laying[:k] + laying[k + 1:]), (puzzle, laying))

    def test_turned(self):
        for puzzle in BARRED:
            for t in range(8):
                other = turned_puzzle(puzzle, t)
                self.assertTrue(right_tree(other, [], cases(other)[1]), (puzzle, t))
                for p in (2, 3):
                    self.assertEqual(sums(other, p)[0], sums(puzzle, p)[0], (puzzle, t, p))


class ClassesTest(unittest.TestCase):
    def test_one_first_laying_in_each_class(self):
        for puzzle in PUZZLES:
            if count(puzzle) < 300:
                found = layings(puzzle, 0, 300)
                firsts = classes(puzzle)
                for laying in found:
                    first = first_of(puzzle, laying)
                    self.assertIn(first, firsts, (puzzle, laying))
                    self.assertEqual(first_of(puzzle, first), first, (puzzle, laying))
                    self.assertEqual(laying in firsts, laying == first, (puzzle, laying))
                    self.assertIn(first, [turned_laying(puzzle, laying, t) for t in keeping(puzzle)])

    def test_classes_times_turnings(self):
        for puzzle in PUZZLES:
            if count(puzzle) < 3000:
                turnings = keeping(puzzle)
                kept = [kept_by(puzzle, t) for t in turnings]
                self.assertEqual(len(classes(puzzle)) * len(turnings), sum(kept), puzzle)
                self.assertEqual(kept[0], count(puzzle), puzzle)

    def test_turnings_that_keep_are_closed(self):
        for puzzle in PUZZLES:
            turnings = keeping(puzzle)
            for t in turnings:
                self.assertIn(undoing(t), turnings)
                for s in turnings:
                    self.assertIn(then(t, s), turnings)
                    for laying in layings(puzzle):
                        twice = turned_laying(puzzle, turned_laying(puzzle, laying, t), s)
                        self.assertEqual(twice, turned_laying(puzzle, laying, then(t, s)), (puzzle, t, s))


class KeptTest(unittest.TestCase):
    def test_what_the_asker_changes_changes_nothing_told(self):
        puzzle = puzzle_of(",,/,,", kinds_of((0, 2, "turn", "AB")), "AA")
        rows = table(puzzle)
        first = layings(puzzle, 0, 100)
        handed = [at("AB", 0, 0)]
        number = number_of(puzzle, handed)
        handed.append("more")
        rows[0][1].clear()
        first[-1].clear()
        self.assertEqual(laying_of(puzzle, number), [at("AB", 0, 0)])
        self.assertNotEqual(table(puzzle)[0][1], [])
        self.assertNotEqual(layings(puzzle, 0, 100)[-1], [])


if __name__ == "__main__":
    unittest.main()
