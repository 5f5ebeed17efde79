"""Promises 2 and 19: layings judged."""

import itertools
import unittest

from coverpieces.judge import judged
from coverpieces.placements import placements
from tests.helpers import at, kind, puzzle_of


ONES = (kind(0, None, "still", "A", "a"), kind(0, None, "still", "B", "b"), kind(0, None, "still", "C", "c"))
TWOS = (kind(0, None, "turn", "AB", "a"),)


def plainly_judged(puzzle, laying):
    """The judgement by the document's words, one after the other, over all cells and all placements."""
    floor, kinds, apart = puzzle
    cells = [(row, column) for row in range(len(floor)) for column in range(len(floor[0]))]
    known = placements(puzzle)
    for k in range(len(laying)):
        if laying[k] not in known:
            return ("piece", k)
    over = {cell: [] for cell in cells}
    for k in range(len(laying)):
        for row, column, sign in laying[k][0]:
            over[row, column].append((k, sign))
    for cell in cells:
        if len(over[cell]) >= 2:
            return ("twice", cell)
    for cell in cells:
        if floor[cell[0]][cell[1]] in ".ABCDEFGHIJKLMNOPQRSTUVWXYZ" and not over[cell]:
            return ("bare", cell)
    for cell in cells:
        for other in cells:
            near = sorted([abs(cell[0] - other[0]), abs(cell[1] - other[1])]) == [0, 1]
            if cell < other and near and over[cell] and over[other] and over[cell][0][0] != over[other][0][0]:
                if tuple(sorted([over[cell][0][1], over[other][0][1]])) in apart:
                    return ("apart", cell, other)
    for k in range(len(kinds)):
        many = sum(placement[1] == k for placement in laying)
        if many < kinds[k][1] or kinds[k][2] is not None and many > kinds[k][2]:
            return ("count", k)
    return ("good",)


class JudgeCase(unittest.TestCase):
    def check(self, puzzle, laying, asked):
        """Judge a laying in every order of its placements, where they are few."""
        told = judged(puzzle, laying)
        self.assertIsInstance(told, tuple)
        self.assertEqual(told, asked, (puzzle, laying))
        if len(laying) < 6 and asked[0] != "piece":
            for other in itertools.permutations(laying):
                self.assertEqual(judged(puzzle, list(other)), asked, (puzzle, other))


class GoodTest(JudgeCase):
    def test_all_covered(self):
        puzzle = puzzle_of("../..", TWOS)
        self.check(puzzle, [at("AB", 0, 0), at("AB", 1, 0)], ("good",))
        self.check(puzzle, [at("AB", 0, 0), at("BA", 1, 0)], ("good",))
        self.check(puzzle, [at("A/B", 0, 0), at("B/A", 0, 1)], ("good",))

    def test_some_left(self):
        puzzle = puzzle_of(".,./,.,", ONES)
        self.check(puzzle, [at("A", 0, 0), at("B", 0, 2, 1), at("C", 1, 1, 2)], ("good",))
        self.check(puzzle, [at("A", 0, 0), at("B", 0, 2, 1), at("C", 1, 1, 2), at("A", 0, 1)], ("good",))

    def test_nothing_laid(self):
        self.check(puzzle_of(",,/,a", ONES), [], ("good",))
        self.check(puzzle_of("#", ONES, "AA"), [], ("good",))

    def test_wanted_signs(self):
        self.check(puzzle_of("Ab", ONES), [at("A", 0, 0), at("B", 0, 1, 1)], ("good",))
        self.check(puzzle_of("Ab", ONES), [at("A", 0, 0)], ("good",))


class PieceTest(JudgeCase):
    def test_beside_the_floor(self):
        puzzle = puzzle_of(",,/,,", TWOS)
        for strange in (at("AB", 0, 1), at("AB", 2, 0), at("AB", 0, -1), at("AB", -1, 0), at("A/B", 1, 0),
                        at("AB", 50, 50)):
            self.check(puzzle, [strange], ("piece", 0))

    def test_of_another_form(self):
        puzzle = puzzle_of(",,,/,,,", (kind(0, None, "turn", "AAB/A..", "a"),))
        self.check(puzzle, [at("AAB/A..", 0, 0)], ("good",))
        self.check(puzzle, [at("..A/BAA", 0, 0)], ("good",))
        for picture in ("BAA/..A", "A../AAB", "AAA/A..", "AAB/B..", "AAB", "A", "AAB/AA."):
            self.check(puzzle, [at(picture, 0, 0)], ("piece", 0))

    def test_by_modes(self):
        for mode, asked in (("still", ("piece", 0)), ("turn", ("good",)), ("flip", ("good",))):
            self.check(puzzle_of(",,", (kind(0, None, mode, "AB"),)), [at("BA", 0, 0)], asked)

    def test_of_another_kind(self):
        puzzle = puzzle_of(",,", ONES)
        self.check(puzzle, [at("A", 0, 0, 1)], ("piece", 0))
        self.check(puzzle, [at("A", 0, 0, 3)], ("piece", 0))
        self.check(puzzle, [at("A", 0, 0, -1)], ("piece", 0))
        self.check(puzzle, [at("C", 0, 0, -1)], ("piece", 0))

    def test_on_closed_cells(self):
        self.check(puzzle_of(",#", TWOS), [at("AB", 0, 0)], ("piece", 0))
        self.check(puzzle_of("#", ONES), [at("A", 0, 0)], ("piece", 0))

    def test_against_wanted_signs(self):
        for floor in ("B", "b", "Z"):
            self.check(puzzle_of(floor, ONES), [at("A", 0, 0)], ("piece", 0))
        self.check(puzzle_of(",b", TWOS), [at("BA", 0, 0)], ("piece", 0))

    def test_unsorted_or_without_spots(self):
        puzzle = puzzle_of(",,", TWOS)
        self.check(puzzle, [(at("AB", 0, 0)[0][::-1], 0)], ("piece", 0))
        self.check(puzzle, [((), 0)], ("piece", 0))
        self.check(puzzle, [(at("AB", 0, 0)[0] + at("AB", 0, 0)[0], 0)], ("piece", 0))

    def test_the_first_such(self):
        puzzle = puzzle_of(",,,", ONES)
        good = [at("A", 0, 0), at("B", 0, 1, 1), at("C", 0, 2, 2)]
        strange = at("A", 0, 3)
        for k in range(4):
            self.check(puzzle, good[:k] + [strange] + good[k:], ("piece", k))
            self.check(puzzle, good[:k] + [strange, at("B", 1, 0, 1)] + good[k:], ("piece", k))
        self.check(puzzle, [good[0], strange, good[1], strange], ("piece", 1))

    def test_counted_as_handed_in(self):
        puzzle = puzzle_of(",,", ONES)
        self.check(puzzle, [at("B", 0, 1, 1), at("A", 0, 0), at("A", -1, 0)], ("piece", 2))

    def test_ahead_of_all_else(self):
        puzzle = puzzle_of("....", (kind(2, 2, "still", "A"),), "AA")
        twice = [at("A", 0, 0), at("A", 0, 0), at("A", 0, 1)]
        self.check(puzzle, twice, ("twice", (0, 0)))
        self.check(puzzle, twice + [at("A", 1, 0)], ("piece", 3))
        self.check(puzzle, [at("A", 1, 0)], ("piece", 0))


class TwiceTest(JudgeCase):
    def test_one_stands_twice(self):
        puzzle = puzzle_of(",,,", TWOS)
        self.check(puzzle, [at("AB", 0, 0), at("AB", 0, 0)], ("twice", (0, 0)))
        self.check(puzzle, [at("AB", 0, 1), at("AB", 0, 1)], ("twice", (0, 1)))

    def test_a_cell_in_two(self):
        puzzle = puzzle_of(",,,/,,,", TWOS)
        self.check(puzzle, [at("AB", 0, 0), at("AB", 0, 1)], ("twice", (0, 1)))
        self.check(puzzle, [at("AB", 0, 0), at("BA", 0, 0)], ("twice", (0, 0)))
        self.check(puzzle, [at("A/B", 0, 2), at("AB", 1, 1)], ("twice", (1, 2)))
        self.check(puzzle, [at("AB", 0, 0), at("AB", 1, 0)], ("good",))

    def test_of_unlike_kinds(self):
        self.check(puzzle_of(",", ONES), [at("A", 0, 0), at("B", 0, 0, 1)], ("twice", (0, 0)))
        kinds = (kind(0, None, "still", "A", "a"), kind(0, None, "still", "A", "b"))
        self.check(puzzle_of(",", kinds), [at("A", 0, 0), at("A", 0, 0, 1)], ("twice", (0, 0)))

    def test_the_first_cell(self):
        puzzle = puzzle_of(",,,/,,,/,,,", TWOS)
        self.check(puzzle, [at("AB", 2, 0), at("BA", 2, 0), at("A/B", 0, 2), at("B/A", 1, 2)], ("twice", (1, 2)))
        self.check(puzzle, [at("AB", 1, 0), at("A/B", 1, 0), at("A/B", 0, 2), at("B/A", 0, 2)], ("twice", (0, 2)))
        # By rows first: (0, 2) is told, not (1, 0).
        self.check(puzzle_of(",,,/,,,", ONES), [
            at("A", 1, 0), at("B", 1, 0, 1), at("A", 0, 2), at("B", 0, 2, 1),
        ], ("twice", (0, 2)))

    def test_three_times(self):
        self.check(puzzle_of(",", ONES), [at("A", 0, 0), at("B", 0, 0, 1), at("C", 0, 0, 2)], ("twice", (0, 0)))

    def test_ahead_of_bare_apart_and_count(self):
        puzzle = puzzle_of("...", (kind(5, 5, "still", "A"),), "AA")
        self.check(puzzle, [at("A", 0, 1), at("A", 0, 2), at("A", 0, 2)], ("twice", (0, 2)))


class BareTest(JudgeCase):
    def test_first_cell_that_must_be_covered(self):
        puzzle = puzzle_of("../..", ONES)
        laying = [at("A", 0, 0), at("A", 0, 1), at("A", 1, 0), at("A", 1, 1)]
        self.check(puzzle, laying, ("good",))
        for k, cell in enumerate([(0, 0), (0, 1), (1, 0), (1, 1)]):
            self.check(puzzle, laying[:k] + laying[k + 1:], ("bare", cell))
            self.check(puzzle, laying[:k], ("bare", cell))

    def test_by_rows_first(self):
        self.check(puzzle_of("../..", ONES), [at("A", 0, 0), at("A", 1, 1)], ("bare", (0, 1)))

    def test_by_signs_of_the_floor(self):
        for floor, asked in ((".", ("bare", (0, 0))), ("A", ("bare", (0, 0))), ("Z", ("bare", (0, 0))),
                             (",", ("good",)), ("a", ("good",)), ("z", ("good",)), ("#", ("good",))):
            self.check(puzzle_of(floor, ONES), [], asked)
            cell = ("bare", (1, 2)) if asked[0] == "bare" else asked
            self.check(puzzle_of("#,a/,b" + floor + "/#..", ONES), [at("A", 2, 1), at("B", 2, 2, 1)], cell)

    def test_that_no_placement_can_cover(self):
        self.check(puzzle_of(",./#.", (kind(0, None, "still", "AA"),)), [at("AA", 0, 0)], ("bare", (1, 1)))

    def test_ahead_of_apart_and_count(self):
        puzzle = puzzle_of("...", (kind(5, 5, "still", "A"),), "AA")
        self.check(puzzle, [at("A", 0, 0), at("A", 0, 1)], ("bare", (0, 2)))


class ApartTest(JudgeCase):
    def test_side_by_side_and_one_above_the_other(self):
        self.check(puzzle_of("..", ONES, "AB"), [at("A", 0, 0), at("B", 0, 1, 1)], ("apart", (0, 0), (0, 1)))
        self.check(puzzle_of("./.", ONES, "AB"), [at("A", 0, 0), at("B", 1, 0, 1)], ("apart", (0, 0), (1, 0)))

    def test_the_later_letter_ahead(self):
        self.check(puzzle_of("..", ONES, "AB"), [at("B", 0, 0, 1), at("A", 0, 1)], ("apart", (0, 0), (0, 1)))
        self.check(puzzle_of("./.", ONES, "AB"), [at("B", 0, 0, 1), at("A", 1, 0)], ("apart", (0, 0), (1, 0)))

    def test_a_sign_and_itself(self):
        self.check(puzzle_of("..", ONES, "AA"), [at("A", 0, 0), at("A", 0, 1)], ("apart", (0, 0), (0, 1)))
        self.check(puzzle_of("..", ONES, "AA"), [at("B", 0, 0, 1), at("B", 0, 1, 1)], ("good",))

    def test_other_pairs(self):
        laying = [at("A", 0, 0), at("B", 0, 1, 1)]
        for pairs in ((), ("AA",), ("AA", "BB"), ("AC", "BC"), ("XY",)):
            self.check(puzzle_of("..", ONES, *pairs), laying, ("good",))
        self.check(puzzle_of("..", ONES, "AA", "AB", "CC"), laying, ("apart", (0, 0), (0, 1)))

    def test_cells_that_do_not_touch(self):
        puzzle = puzzle_of(",,,/,,,", ONES, "AB")
        self.check(puzzle, [at("A", 0, 0), at("B", 1, 1, 1)], ("good",))
        self.check(puzzle, [at("A", 0, 1), at("B", 1, 0, 1)], ("good",))
        self.check(puzzle, [at("A", 0, 0), at("B", 0, 2, 1)], ("good",))
        # The end of a row and the beginning of the next one don't touch.
        self.check(puzzle, [at("A", 0, 2), at("B", 1, 0, 1)], ("good",))

    def test_within_one_placement(self):
        puzzle = puzzle_of(",,,,/,,,,", TWOS, "AB")
        self.check(puzzle, [at("AB", 0, 0)], ("good",))
        self.check(puzzle, [at("AB", 0, 0), at("BA", 0, 2)], ("good",))
        self.check(puzzle, [at("AB", 0, 0), at("AB", 0, 2)], ("apart", (0, 1), (0, 2)))
        self.check(puzzle, [at("AB", 0, 0), at("AB", 1, 0)], ("good",))
        self.check(puzzle, [at("AB", 0, 0), at("BA", 1, 0)], ("apart", (0, 0), (1, 0)))

    def test_of_one_kind_and_of_two(self):
        kinds = (kind(0, None, "turn", "AB", "a"), kind(0, None, "turn", "AB", "b"))
        puzzle = puzzle_of("....", kinds, "AB")
        for number in (0, 1):
            self.check(puzzle, [at("AB", 0, 0), at("AB", 0, 2, number)], ("apart", (0, 1), (0, 2)))

    def test_first_by_cell(self):
        puzzle = puzzle_of(",,,/,,,", ONES, "AB")
        lower = [at("A", 1, 0), at("B", 1, 1, 1)]
        self.check(puzzle, lower + [at("A", 0, 1), at("B", 0, 2, 1)], ("apart", (0, 1), (0, 2)))
        self.check(puzzle, lower + [at("A", 0, 2), at("B", 1, 2, 1)], ("apart", (0, 2), (1, 2)))
        self.check(puzzle, lower, ("apart", (1, 0), (1, 1)))

    def test_first_by_cell_then_by_other(self):
        puzzle = puzzle_of(",,/,,", ONES, "AB", "AC")
        self.check(puzzle, [at("A", 0, 0), at("B", 0, 1, 1), at("C", 1, 0, 2)], ("apart", (0, 0), (0, 1)))
        self.check(puzzle, [at("A", 0, 0), at("C", 0, 1, 2), at("B", 1, 0, 1)], ("apart", (0, 0), (0, 1)))
        # The right one may stand here, so the lower one is told.
        self.check(puzzle_of(",,/,,", ONES, "AC"), [at("A", 0, 0), at("B", 0, 1, 1), at("C", 1, 0, 2)],
                   ("apart", (0, 0), (1, 0)))

    def test_ahead_of_count(self):
        self.check(puzzle_of("..", (kind(5, 5, "still", "A"),), "AA"), [at("A", 0, 0), at("A", 0, 1)],
                   ("apart", (0, 0), (0, 1)))


class CountTest(JudgeCase):
    def test_bounds(self):
        laying = [at("A", 0, 0), at("A", 0, 1), at("A", 0, 2)]
        for least, most, many in ((0, 3, "0123"), (1, 2, "12"), (2, 2, "2"), (0, 0, "0"), (3, None, "3"),
                                  (0, None, "0123"), (2, None, "23"), (4, None, ""), (4, 64, "")):
            puzzle = puzzle_of(",,,", (kind(least, most, "still", "A"),))
            for k in range(4):
                asked = ("good",) if str(k) in many else ("count", 0)
                self.check(puzzle, laying[:k], asked)

    def test_first_kind(self):
        kinds = (kind(0, 1, "still", "A", "a"), kind(1, 1, "still", "B", "b"), kind(1, None, "still", "C", "c"))
        puzzle = puzzle_of(",,,,", kinds)
        self.check(puzzle, [], ("count", 1))
        self.check(puzzle, [at("B", 0, 0, 1)], ("count", 2))
        self.check(puzzle, [at("C", 0, 0, 2)], ("count", 1))
        self.check(puzzle, [at("B", 0, 0, 1), at("C", 0, 1, 2)], ("good",))
        self.check(puzzle, [at("A", 0, 0), at("A", 0, 1)], ("count", 0))
        self.check(puzzle, [at("A", 0, 0), at("B", 0, 1, 1), at("B", 0, 2, 1), at("C", 0, 3, 2)], ("count", 1))
        self.check(puzzle, [at("B", 0, 1, 1), at("C", 0, 2, 2), at("C", 0, 3, 2)], ("good",))

    def test_kinds_of_one_form_are_counted_apart(self):
        kinds = (kind(1, 1, "still", "A", "a"), kind(1, 1, "still", "A", "b"))
        puzzle = puzzle_of("..", kinds)
        self.check(puzzle, [at("A", 0, 0), at("A", 0, 1, 1)], ("good",))
        self.check(puzzle, [at("A", 0, 0, 1), at("A", 0, 1)], ("good",))
        self.check(puzzle, [at("A", 0, 0), at("A", 0, 1)], ("count", 0))
        self.check(puzzle, [at("A", 0, 0, 1), at("A", 0, 1, 1)], ("count", 0))


class WholeTest(JudgeCase):
    PUZZLES = (
        puzzle_of(".,/#.", (kind(1, 1, "turn", "AB", "a"), kind(0, 1, "still", "A", "b")), "AA"),
        puzzle_of("..,", (kind(0, 2, "flip", "AB", "a"), kind(0, None, "still", "C", "b")), "AC", "BB"),
        puzzle_of("A,/,b", (kind(0, None, "turn", "AB", "a"), kind(1, 2, "still", "B", "b")), "AB"),
        puzzle_of(".../...", (kind(2, 2, "flip", "AB/.A", "a"),), "AA"),
    )

    def test_all_small_layings(self):
        seen = set()
        for puzzle in self.PUZZLES:
            pieces = placements(puzzle) + [at("A", 3, 3)]
            for many in range(4):
                for laying in itertools.product(pieces, repeat=many):
                    asked = plainly_judged(puzzle, laying)
                    seen.add(asked[0])
                    self.assertEqual(judged(puzzle, list(laying)), asked, (puzzle, laying))
        self.assertEqual(seen, {"piece", "twice", "bare", "apart", "count", "good"})

    def test_whole_floor(self):
        puzzle = puzzle_of("/".join(["........"] * 8), (kind(64, 64, "still", "A"),))
        laying = [at("A", row, column) for row in range(8) for column in range(8)]
        self.check(puzzle, laying, ("good",))
        self.check(puzzle, laying[::-1], ("good",))
        self.check(puzzle, laying[:-1], ("bare", (7, 7)))
        self.check(puzzle, laying + laying[-1:], ("twice", (7, 7)))

    def test_handed_in_stays(self):
        puzzle = puzzle_of("../..", ONES, "AB")
        for laying in ([at("B", 1, 1, 1), at("A", 0, 0)], [at("A", 5, 5)], [at("A", 0, 0)] * 3,
                       [at("A", 1, 1), at("A", 1, 0), at("B", 0, 1, 1), at("A", 0, 0)]):
            kept = list(laying)
            told = judged(puzzle, laying)
            self.assertEqual(laying, kept)
            laying.clear()
            self.assertEqual(judged(puzzle, kept), told)
        self.assertEqual(puzzle, puzzle_of("../..", ONES, "AB"))


if __name__ == "__main__":
    unittest.main()
