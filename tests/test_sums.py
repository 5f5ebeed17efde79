"""Promises 2 and 34 to 36: weights that show that there is no laying, mixtures, and sums by a prime."""

import copy
import itertools
import unittest

from coverpieces.errors import NoNumber
from coverpieces.floors import must_be, open_cells
from coverpieces.placements import placements
from coverpieces.sums import is_mixture, show_none, sums
from coverpieces.table import count
from tests.helpers import BARRED, SMALL, Unequal, at, kinds_of, puzzle_of

PRIMES = (2, 3, 5, 7, 11, 13, 17, 19, 23, 29, 31, 37, 41, 43, 47, 53, 59, 61, 67, 71, 73, 79, 83, 89, 97)
ONE = kinds_of((0, None, "still", "A"))
TWOS = kinds_of((0, None, "still", "AA"))
CORNERS = puzzle_of("../..", kinds_of((0, None, "turn", "AA/A.")))
THREE = puzzle_of("...", TWOS)
WHOLE = puzzle_of("#......./" + "......../" * 6 + ".......#", kinds_of((0, None, "turn", "AA")))


def plainly_shown(puzzle, p, weights):
    """Whether weights show that there is no laying, by the document's words."""
    floor, kinds, apart = puzzle
    cells = open_cells(floor)
    if len(weights[0]) != len(cells) or len(weights[1]) != len(kinds):
        return False
    if any(weight not in range(p) for weight in weights[0] + weights[1]):
        return False
    if any(weight and not must_be(floor, cell) for weight, cell in zip(weights[0], cells)):
        return False
    if any(weight and kind[1] != kind[2] for weight, kind in zip(weights[1], kinds)):
        return False
    by_cell = dict(zip(cells, weights[0]))
    for spots, number in placements(puzzle):
        if (sum(by_cell[spot[:2]] for spot in spots) + weights[1][number]) % p:
            return False
    return (sum(weights[0]) + sum(weight * kind[1] for weight, kind in zip(weights[1], kinds))) % p != 0


def plainly_mixed(puzzle, p, mixture):
    """Whether a list is a mixture, by the document's words."""
    floor, kinds, apart = puzzle
    known = placements(puzzle)
    if any(piece not in known or times not in range(1, p) for piece, times in mixture):
        return False
    if any(one[0] >= other[0] for one, other in zip(mixture, mixture[1:])):
        return False
    for cell in open_cells(floor):
        with_it = [times for (spots, number), times in mixture if cell in [spot[:2] for spot in spots]]
        if must_be(floor, cell) and (sum(with_it) - 1) % p:
            return False
    for k, kind in enumerate(kinds):
        of_it = [times for (spots, number), times in mixture if number == k]
        if kind[1] == kind[2] and (sum(of_it) - kind[1]) % p:
            return False
    return True


def all_weights(puzzle, p):
    """All weights of the told lengths and numbers, wherever they are 0."""
    many = len(open_cells(puzzle[0]))
    for numbers in itertools.product(range(p), repeat=many + len(puzzle[1])):
        yield (list(numbers[:many]), list(numbers[many:]))


def all_mixtures(puzzle, p):
    """All lists of placements with times below p, sorted."""
    known = placements(puzzle)
    for numbers in itertools.product(range(p), repeat=len(known)):
        yield [(piece, times) for piece, times in zip(known, numbers) if times]


class ShowNoneTest(unittest.TestCase):
    def check(self, puzzle, p, weights, asked):
        self.assertIs(show_none(puzzle, p, weights), asked, (puzzle, p, weights))

    def right(self, puzzle, p, *weights):
        for one in weights:
            self.check(puzzle, p, one, True)

    def wrong(self, puzzle, p, *weights):
        for one in weights:
            self.check(puzzle, p, one, False)

    def test_by_hand(self):
        self.right(CORNERS, 3, ([1, 1, 1, 1], [0]), ([2, 2, 2, 2], [0]))
        self.right(THREE, 2, ([1, 1, 1], [0]))
        self.right(THREE, 5, ([1, 4, 1], [0]), ([2, 3, 2], [0]))
        self.right(THREE, 97, ([1, 96, 1], [0]))
        self.right(puzzle_of("B", ONE), 2, ([1], [0]))

    def test_a_placement_that_sums_to_no_multiple(self):
        self.wrong(CORNERS, 3, ([1, 1, 1, 2], [0]), ([1, 0, 0, 0], [0]))
        self.wrong(CORNERS, 2, ([1, 1, 1, 1], [0]))
        self.wrong(THREE, 5, ([1, 4, 2], [0]), ([0, 4, 1], [0]), ([1, 1, 1], [0]))

    def test_all_that_sums_to_a_multiple(self):
        for p in (2, 3, 5, 97):
            self.wrong(THREE, p, ([0, 0, 0], [0]))
        self.wrong(puzzle_of("....", TWOS), 2, ([1, 1, 1, 1], [0]))
        self.wrong(puzzle_of("....", TWOS), 5, ([1, 4, 1, 4], [0]))
        self.wrong(puzzle_of("BBB", ONE), 3, ([1, 1, 1], [0]))
        self.right(puzzle_of("BBB", ONE), 3, ([1, 1, 0], [0]))

    def test_cells_that_may_be_left(self):
        puzzle = puzzle_of("B,b", ONE)
        self.right(puzzle, 3, ([1, 0, 0], [0]), ([2, 0, 0], [0]))
        self.wrong(puzzle, 3, ([1, 0, 1], [0]), ([1, 1, 0], [0]), ([0, 0, 1], [0]), ([1, 3, 0], [0]))

    def test_kinds(self):
        puzzle = puzzle_of("..,", kinds_of((1, 1, "still", "AA"), (1, 1, "still", "B")))
        self.wrong(puzzle, 2, *all_weights(puzzle, 2))
        puzzle = puzzle_of("..", kinds_of((3, 3, "still", "A"), (1, 1, "still", "A")))
        self.right(puzzle, 3, ([1, 1], [2, 2]), ([2, 2], [1, 1]))
        self.right(puzzle, 5, ([1, 1], [4, 4]))
        self.wrong(puzzle, 2, ([1, 1], [1, 1]))
        self.wrong(puzzle, 3, ([1, 1], [2, 1]), ([1, 1], [0, 0]), ([0, 0], [2, 2]))

    def test_least_times_the_weight(self):
        for least in range(1, 8):
            puzzle = puzzle_of("..", kinds_of((least, least, "still", "A")))
            for p in (2, 3, 5):
                self.check(puzzle, p, ([1, 1], [p - 1]), (2 - least) % p != 0)

    def test_a_kind_that_lies_nowhere(self):
        puzzle = puzzle_of("#", kinds_of((4, 4, "still", "A")))
        self.right(puzzle, 3, ([], [1]), ([], [2]))
        self.wrong(puzzle, 3, ([], [0]))
        self.wrong(puzzle, 2, ([], [0]), ([], [1]))

    def test_kinds_whose_least_and_most_are_unlike(self):
        for most in (2, 64, None):
            puzzle = puzzle_of("#", kinds_of((1, most, "still", "A")))
            self.wrong(puzzle, 3, ([], [0]), ([], [1]), ([], [2]))
        self.right(puzzle_of("#", kinds_of((1, 1, "still", "A"), (1, 2, "still", "A"))), 3, ([], [1, 0]))
        self.wrong(puzzle_of("#", kinds_of((1, 1, "still", "A"), (1, 2, "still", "A"))), 3, ([], [1, 1]))

    def test_other_numbers(self):
        self.right(THREE, 2, ([1, 1, 1], [0]))
        self.wrong(THREE, 2, ([1, 1, 3], [0]), ([1, -1, 1], [0]), ([1, 1, 1], [2]), ([1, 1, 1], [-2]))
        self.wrong(THREE, 5, ([1, -1, 1], [0]), ([6, 4, 1], [0]), ([1, 4, 1], [5]), ([1, 4, 1], [-5]))
        self.right(puzzle_of("BB", ONE), 3, ([1, 0], [0]))
        self.wrong(puzzle_of("BB", ONE), 3, ([1, 3], [0]), ([1, -3], [0]), ([4, 0], [0]), ([-2, 0], [0]))
        self.wrong(puzzle_of("#", kinds_of((1, 1, "still", "A"))), 3, ([], [3]), ([], [4]), ([], [-1]))
        for other in (None, "1", 1.0, True, (1,), [1]):
            self.wrong(THREE, 2, ([other, 1, 1], [0]))

    def test_other_lengths(self):
        self.wrong(THREE, 2, ([1, 1], [0]), ([1, 1, 1, 0], [0]), ([1, 1, 1], []), ([1, 1, 1], [0, 0]), ([], [0]),
                   ([], []), ([1, 1, 1, 0], []), ([1, 1], [1, 0]))
        # Closed cells have no weights.
        puzzle = puzzle_of("#B", ONE)
        self.right(puzzle, 2, ([1], [0]))
        self.wrong(puzzle, 2, ([0, 1], [0]), ([1, 0], [0]))
        self.wrong(THREE, 2, (), ([1, 1, 1],), ([1, 1, 1], [0], []))

    def test_all_weights(self):
        seen = {True: 0, False: 0}
        for puzzle in SMALL + BARRED:
            many = len(open_cells(puzzle[0])) + len(puzzle[1])
            for p in [p for p in (2, 3, 5) if p ** many <= 2500]:
                for weights in all_weights(puzzle, p):
                    asked = plainly_shown(puzzle, p, weights)
                    seen[asked] += 1
                    self.check(puzzle, p, weights, asked)
        self.assertGreater(seen[True], 30)
        self.assertGreater(seen[False], 5000)

    def test_handed_in_stays(self):
        weights = ([1, 4, 1], [0])
        self.right(THREE, 5, weights)
        self.assertEqual(weights, ([1, 4, 1], [0]))
        weights[0].append(0)
        self.wrong(THREE, 5, weights)
        weights[0].pop()
        self.right(THREE, 5, weights)


class IsMixtureTest(unittest.TestCase):
    LEFT, RIGHT = at("AA", 0, 0), at("AA", 0, 1)

    def check(self, puzzle, p, mixture, asked):
        self.assertIs(is_mixture(puzzle, p, mixture), asked, (puzzle, p, mixture))

    def right(self, puzzle, p, *mixtures):
        for mixture in mixtures:
            self.check(puzzle, p, mixture, True)

    def wrong(self, puzzle, p, *mixtures):
        for mixture in mixtures:
            self.check(puzzle, p, mixture, False)

    def corners(self, times):
        return [(piece, times) for piece in placements(CORNERS)]

    def test_by_hand(self):
        self.right(CORNERS, 2, self.corners(1))
        self.right(CORNERS, 5, self.corners(2))
        self.right(CORNERS, 7, self.corners(5))
        self.wrong(CORNERS, 5, self.corners(1), self.corners(3), self.corners(4), [])
        self.wrong(CORNERS, 3, self.corners(1), self.corners(2), [])

    def test_layings_are_mixtures(self):
        puzzle = puzzle_of("..,.", kinds_of((0, None, "still", "AA"), (0, 2, "still", "B")))
        for p in (2, 3, 97):
            for other in (at("AA", 0, 2), at("B", 0, 3, 1)):
                self.right(puzzle, p, [(at("AA", 0, 0), 1), (other, 1)])

    def test_nothing_asked(self):
        for p in (2, 3, 97):
            self.right(puzzle_of(",b#", ONE), p, [], [(at("A", 0, 0), 1)], [(at("A", 0, 0), p - 1)])
            self.right(puzzle_of("#", ONE), p, [])
            self.wrong(puzzle_of(".", ONE), p, [])

    def test_cells_that_must_be_covered(self):
        puzzle = puzzle_of(".A,", ONE)
        one, two, three = [at("A", 0, column) for column in range(3)]
        self.right(puzzle, 3, [(one, 1), (two, 1)], [(one, 1), (two, 1), (three, 2)], [(one, 1), (two, 1), (three, 1)])
        self.wrong(puzzle, 3, [(one, 1)], [(two, 1)], [(one, 2), (two, 1)], [(one, 1), (two, 2)], [(three, 1)])

    def test_sums_but_for_multiples(self):
        kinds = kinds_of((0, None, "still", "A"), (0, None, "still", "A"), (0, None, "still", "A"))
        puzzle = puzzle_of(".", kinds)
        for times in itertools.product(range(1, 5), repeat=3):
            mixture = [(at("A", 0, 0, k), many) for k, many in enumerate(times)]
            self.check(puzzle, 5, mixture, sum(times) % 5 == 1)

    def test_kinds_whose_least_and_most_are_alike(self):
        for least in range(7):
            puzzle = puzzle_of(",", kinds_of((least, least, "still", "A")))
            for p in (2, 3, 5):
                self.check(puzzle, p, [], least % p == 0)
                for times in range(1, p):
                    self.check(puzzle, p, [(at("A", 0, 0), times)], least % p == times)

    def test_kinds_whose_least_and_most_are_unlike(self):
        for most in (2, 3, None):
            puzzle = puzzle_of(",", kinds_of((1, most, "still", "A")))
            self.right(puzzle, 3, [], [(at("A", 0, 0), 1)], [(at("A", 0, 0), 2)])

    def test_signs_apart_are_no_matter(self):
        self.right(puzzle_of("..", ONE, "AA"), 2, [(at("A", 0, 0), 1), (at("A", 0, 1), 1)])

    def test_placements_that_are_none(self):
        puzzle = puzzle_of(".,,#", TWOS)
        self.right(puzzle, 3, [(self.LEFT, 1)])
        for strange in (at("AA", 0, 2), at("AA", 0, 0, 1), at("AB", 0, 0), at("A", 0, 0), at("AA", -1, 0), None, 0,
                        (), (self.LEFT,), [], (list(self.LEFT[0]), 0), (self.LEFT[0][::-1], 0)):
            self.wrong(puzzle, 3, [(strange, 1)], [(self.LEFT, 1), (strange, 1)], [(strange, 1), (self.LEFT, 1)])

    def test_times_out_of_bounds(self):
        puzzle = puzzle_of(".,,", TWOS)
        for times in (1 + 3, 1 - 3, 1 + 30, 0, 3, -1, 1.0, "1", None, True):
            self.wrong(puzzle, 3, [(self.LEFT, times)])
        for times in (0, 3, -1, 4, 6):
            self.wrong(puzzle, 3, [(self.LEFT, 1), (self.RIGHT, times)])
        self.right(puzzle, 3, [(self.LEFT, 1), (self.RIGHT, 1)], [(self.LEFT, 1), (self.RIGHT, 2)])

    def test_unsorted_or_twice(self):
        puzzle = puzzle_of(".,,", TWOS)
        self.wrong(puzzle, 3, [(self.RIGHT, 1), (self.LEFT, 1)], [(self.LEFT, 2), (self.LEFT, 2)])
        for times in (1, 2):
            self.wrong(puzzle, 3, [(self.LEFT, 1), (self.RIGHT, 1), (self.RIGHT, times)])
        # By placements, not by times.
        self.right(puzzle, 5, [(self.LEFT, 1), (self.RIGHT, 4)])
        self.right(puzzle_of(",.", ONE), 5, [(at("A", 0, 0), 4), (at("A", 0, 1), 1)])

    def test_tuples_of_other_forms(self):
        puzzle = puzzle_of(".,,", TWOS)
        for part in ((), (self.LEFT,), (self.LEFT, 1, 1), [self.LEFT, 1], self.LEFT, (1, self.LEFT), None, 1, "ab"):
            self.wrong(puzzle, 3, [part], [(self.LEFT, 1), part])

    def test_all_mixtures(self):
        seen = {True: 0, False: 0}
        for puzzle in SMALL + BARRED:
            for p in [p for p in (2, 3, 5) if p ** len(placements(puzzle)) <= 2500]:
                for mixture in all_mixtures(puzzle, p):
                    asked = plainly_mixed(puzzle, p, mixture)
                    seen[asked] += 1
                    self.check(puzzle, p, mixture, asked)
        self.assertGreater(seen[True], 500)
        self.assertGreater(seen[False], 5000)

    def test_handed_in_stays(self):
        mixture = self.corners(2)
        kept = copy.deepcopy(mixture)
        self.right(CORNERS, 5, mixture)
        self.assertEqual(mixture, kept)
        mixture.reverse()
        self.wrong(CORNERS, 5, mixture)
        mixture.reverse()
        self.right(CORNERS, 5, mixture)


class SumsTest(unittest.TestCase):
    def check(self, puzzle, p):
        """What is told is right; the word of it is handed back."""
        told = sums(puzzle, p)
        self.assertIsInstance(told, tuple)
        self.assertEqual(len(told), 2)
        if told[0] == "weights":
            self.assertIsInstance(told[1], tuple)
            self.assertEqual([isinstance(part, list) for part in told[1]], [True, True])
            self.assertIs(show_none(puzzle, p, told[1]), True, (puzzle, p, told))
            self.assertTrue(plainly_shown(puzzle, p, told[1]), (puzzle, p, told))
        else:
            self.assertEqual(told[0], "mixture")
            self.assertIsInstance(told[1], list)
            self.assertIs(is_mixture(puzzle, p, told[1]), True, (puzzle, p, told))
            self.assertTrue(plainly_mixed(puzzle, p, told[1]), (puzzle, p, told))
        return told[0]

    def test_by_hand(self):
        self.assertEqual([self.check(CORNERS, p) for p in (2, 3, 5, 7, 97)],
                         ["mixture", "weights", "mixture", "mixture", "mixture"])
        for p in PRIMES:
            self.assertEqual(self.check(THREE, p), "weights")
            # Told black and white, the cells are 32 and 30.
            self.assertEqual(self.check(WHOLE, p), "mixture" if p == 2 else "weights")
            self.assertEqual(self.check(puzzle_of("..", ONE), p), "mixture")
        self.assertEqual(sums(CORNERS, 5), ("mixture", [(piece, 2) for piece in placements(CORNERS)]))
        self.assertEqual(sums(puzzle_of("..", ONE), 2), ("mixture", [(at("A", 0, 0), 1), (at("A", 0, 1), 1)]))
        self.assertEqual(sums(puzzle_of("#", ONE), 2), ("mixture", []))
        self.assertEqual(sums(puzzle_of("#B", ONE), 2), ("weights", ([1], [0])))
        self.assertEqual(sums(puzzle_of("#,", kinds_of((0, 1, "still", "B"), (3, 3, "still", "AA"))), 2),
                         ("weights", ([0], [0, 1])))

    def test_a_row_of_seven(self):
        for size in range(2, 7):
            puzzle = puzzle_of("." * 7, kinds_of((0, None, "still", "A" * size), (1, 1, "still", "A" * size)))
            self.assertEqual(self.check(puzzle, 7), "weights")

    def test_kinds_by_the_prime(self):
        # Each two covers one of the four black cells.
        for least in range(12):
            puzzle = puzzle_of("..../....", kinds_of((least, least, "turn", "AA")))
            for p in (2, 3, 5, 7):
                self.assertEqual(self.check(puzzle, p), "mixture" if (least - 4) % p == 0 else "weights")

    def test_small_puzzles(self):
        seen = {"weights": 0, "mixture": 0}
        for puzzle in SMALL + BARRED:
            for p in (2, 3, 5, 7, 13, 97):
                word = self.check(puzzle, p)
                seen[word] += 1
                if word == "weights":
                    self.assertEqual(count(puzzle), 0, (puzzle, p))
        self.assertGreater(seen["weights"], 30)
        self.assertGreater(seen["mixture"], 100)

    def test_just_one_of_both(self):
        for puzzle in SMALL + BARRED:
            many = len(open_cells(puzzle[0])) + len(puzzle[1])
            for p in [p for p in (2, 3, 5) if p ** many <= 2500]:
                told = sums(puzzle, p)[0]
                shown = any(plainly_shown(puzzle, p, weights) for weights in all_weights(puzzle, p))
                self.assertEqual(told, "weights" if shown else "mixture", (puzzle, p))
            for p in [p for p in (2, 3, 5) if p ** len(placements(puzzle)) <= 2500]:
                told = sums(puzzle, p)[0]
                mixed = any(plainly_mixed(puzzle, p, mixture) for mixture in all_mixtures(puzzle, p))
                self.assertEqual(told, "mixture" if mixed else "weights", (puzzle, p))

    def test_greater_puzzles(self):
        kinds = kinds_of((0, None, "flip", "AAA/A.."), (1, 1, "flip", "BBB/.B."), (2, 2, "still", "CC/CC"))
        for rows in (["......"] * 6, [".....,"] * 6, ["......#", ".a.,..."] * 3, ["C" + "." * 7] * 8):
            for p in (2, 3, 5, 97):
                self.check(puzzle_of("/".join(rows), kinds, "AC"), p)

    def test_primes_are_not_refused(self):
        for p in PRIMES:
            self.check(CORNERS, p)

    def test_what_is_no_prime(self):
        no_primes = [number for number in range(-100, 200) if number not in PRIMES]
        others = [10 ** 59, -(10 ** 59), 10 ** 59 + 9, True, False, None, "", "2", "97", 2.0, 3.5, b"2", (), (2,), [],
                  [2], {}, {2: 2}, {2}, range(2), object(), int, Unequal(), 2 + 0j, float("nan")]
        for puzzle in (CORNERS, puzzle_of("#", ONE)):
            for p in no_primes + others:
                with self.assertRaises(NoNumber):
                    sums(puzzle, p)

    def test_told_lists_are_the_askers_own(self):
        kept = copy.deepcopy(sums(CORNERS, 5))
        sums(CORNERS, 5)[1].clear()
        self.assertEqual(sums(CORNERS, 5), kept)
        kept = copy.deepcopy(sums(THREE, 5))
        told = sums(THREE, 5)
        told[1][0].clear()
        told[1][1].append(7)
        self.assertEqual(sums(THREE, 5), kept)
        told = sums(puzzle_of("B", kinds_of((0, 0, "still", "A"))), 2)
        self.assertIsNot(told[1][0], told[1][1])


if __name__ == "__main__":
    unittest.main()
