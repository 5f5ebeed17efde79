"""Promises 2 and 31 to 33: what goes with what is laid, trees of cases, and a puzzle's cases."""

import copy
import itertools
import unittest

from coverpieces.cases import cases, going, right_tree
from coverpieces.floors import must_be, open_cells
from coverpieces.forms import touches
from coverpieces.judge import judged
from coverpieces.placements import placements
from coverpieces.puzzles import is_puzzle
from coverpieces.table import count
from tests.helpers import BARRED, SMALL, at, kinds_of, puzzle_of, tried_layings

ONE = kinds_of((0, None, "still", "A"))
ONES = kinds_of((0, None, "still", "A"), (0, None, "still", "B"), (0, None, "still", "C"))
TWOS = kinds_of((0, None, "still", "AA"))
THREE = puzzle_of("...", TWOS)
LEFT = at("AA", 0, 0)
RIGHT = at("AA", 0, 1)


def plainly_going(puzzle, laid):
    """The placements that go with what is laid, by the document's words."""
    floor, kinds, apart = puzzle
    found = []
    for spots, number in placements(puzzle):
        pairs = [(spot, other) for spot in spots for others, many in laid for other in others]
        most = kinds[number][2]
        if any(spot[:2] == other[:2] for spot, other in pairs):
            continue
        if any(touches(spot[:2], other[:2]) and tuple(sorted([spot[2], other[2]])) in apart for spot, other in pairs):
            continue
        if most is None or sum(other == number for others, other in laid) < most:
            found.append((spots, number))
    return found


def plainly_right(puzzle, laid, tree):
    """Whether a tree is right for what is laid, by the document's words."""
    floor, kinds, apart = puzzle
    word, what, branches = tree
    if word == "cell":
        if what not in open_cells(floor) or not must_be(floor, what):
            return False
        if any(what == spot[:2] for spots, number in laid for spot in spots):
            return False
        asked = [piece for piece in plainly_going(puzzle, laid) if what in [spot[:2] for spot in piece[0]]]
    else:
        if what not in range(len(kinds)) or sum(number == what for spots, number in laid) >= kinds[what][1]:
            return False
        asked = [piece for piece in plainly_going(puzzle, laid) if piece[1] == what]
    if [piece for piece, below in branches] != asked:
        return False
    return all(plainly_right(puzzle, laid + [piece], below) for piece, below in branches)


def lists_laid(puzzle, most):
    """All lists of up to so many placements, in every order, each one going with those ahead of it."""
    lists = [[]]
    for laid in lists:
        if len(laid) < most:
            lists.extend([laid + [piece] for piece in plainly_going(puzzle, laid)])
    return lists


def changed_trees(puzzle, tree):
    """Trees that differ from a tree at one place, at its root or further down."""
    word, what, branches = tree
    for cell in open_cells(puzzle[0]) + [(-1, 0), (0, -1), (len(puzzle[0]), 0)]:
        yield ("cell", cell, branches)
    for k in range(-1, len(puzzle[1]) + 1):
        yield ("kind", k, branches)
    yield (word, what, branches[::-1])
    yield (word, what, branches[1:])
    yield (word, what, branches[:-1])
    yield (word, what, branches + branches[:1])
    yield (word, what, branches + [(piece, tree) for piece in placements(puzzle)[:1]])
    for k, (piece, below) in enumerate(branches):
        yield (word, what, branches[:k] + branches[k + 1:])
        yield (word, what, branches[:k] + [(placements(puzzle)[0], below)] + branches[k + 1:])
        for other in changed_trees(puzzle, below):
            yield (word, what, branches[:k] + [(piece, other)] + branches[k + 1:])


class GoingTest(unittest.TestCase):
    def check(self, puzzle, laid, asked):
        told = going(puzzle, laid)
        self.assertIsInstance(told, list)
        self.assertEqual(told, asked, (puzzle, laid))

    def test_nothing_laid(self):
        for puzzle in SMALL:
            if all(kind[2] != 0 for kind in puzzle[1]):
                self.check(puzzle, [], placements(puzzle))

    def test_cells_in_common(self):
        puzzle = puzzle_of(",,,,", kinds_of((0, None, "still", "AA"), (0, None, "still", "B")))
        self.check(puzzle, [at("AA", 0, 0)], [at("AA", 0, 2), at("B", 0, 2, 1), at("B", 0, 3, 1)])
        self.check(puzzle, [at("AA", 0, 1)], [at("B", 0, 0, 1), at("B", 0, 3, 1)])
        self.check(puzzle, [at("B", 0, 0, 1)], [at("AA", 0, 1), at("B", 0, 1, 1), at("AA", 0, 2), at("B", 0, 2, 1),
                                                at("B", 0, 3, 1)])
        self.check(puzzle, [at("B", 0, 1, 1), at("B", 0, 3, 1)], [at("B", 0, 0, 1), at("B", 0, 2, 1)])
        self.check(puzzle, [at("AA", 0, 0), at("AA", 0, 2)], [])

    def test_signs_apart_that_touch(self):
        puzzle = puzzle_of(",,,/,,,/,,,", ONES, "AB")
        around = [(0, 1), (1, 0), (1, 2), (2, 1)]
        for laid, barred in ((at("A", 1, 1), "B"), (at("B", 1, 1, 1), "A")):
            asked = [piece for piece in placements(puzzle) if piece[0][0][:2] != (1, 1)
                     and not (piece[0][0][:2] in around and piece[0][0][2] == barred)]
            self.assertEqual(len(asked), 20)
            self.check(puzzle, [laid], asked)
        self.assertEqual(len(going(puzzle, [at("C", 1, 1, 2)])), 24)

    def test_a_sign_apart_from_itself(self):
        puzzle = puzzle_of(",,,", ONE, "AA")
        self.check(puzzle, [at("A", 0, 0)], [at("A", 0, 2)])
        self.check(puzzle, [at("A", 0, 1)], [])

    def test_only_touching_spots_are_apart(self):
        puzzle = puzzle_of(",,,,", kinds_of((0, None, "turn", "AB")), "AB")
        self.check(puzzle, [at("AB", 0, 0)], [at("BA", 0, 2)])
        self.check(puzzle, [at("BA", 0, 0)], [at("AB", 0, 2)])

    def test_the_end_of_a_row_does_not_touch_the_next(self):
        self.check(puzzle_of(",,/,,", ONE, "AA"), [at("A", 0, 1)], [at("A", 1, 0)])

    def test_kinds_of_which_most_are_laid(self):
        puzzle = puzzle_of(",,,", kinds_of((0, 1, "still", "A"), (0, 2, "still", "A"), (0, 0, "still", "A")))
        self.check(puzzle, [], [at("A", 0, column, number) for column in (0, 1, 2) for number in (0, 1)])
        self.check(puzzle, [at("A", 0, 0)], [at("A", 0, 1, 1), at("A", 0, 2, 1)])
        self.check(puzzle, [at("A", 0, 0, 1)], [at("A", 0, 1), at("A", 0, 1, 1), at("A", 0, 2), at("A", 0, 2, 1)])
        self.check(puzzle, [at("A", 0, 0, 1), at("A", 0, 2, 1)], [at("A", 0, 1)])

    def test_as_many_as_you_like(self):
        for least in (0, 1, 64):
            puzzle = puzzle_of(",,,,", kinds_of((least, None, "still", "A")))
            self.check(puzzle, [at("A", 0, 0), at("A", 0, 1), at("A", 0, 2)], [at("A", 0, 3)])

    def test_all_that_can_be_laid(self):
        for puzzle in SMALL + BARRED:
            for laid in lists_laid(puzzle, 2):
                self.check(puzzle, laid, plainly_going(puzzle, laid))

    def test_the_order_of_what_is_laid_is_no_matter(self):
        puzzle = puzzle_of(",,,/,,,", ONES, "AB", "CC")
        for laid in lists_laid(puzzle, 3)[::50]:
            for other in itertools.permutations(laid):
                self.check(puzzle, list(other), plainly_going(puzzle, laid))

    def test_handed_in_stays_and_told_is_the_askers_own(self):
        puzzle = puzzle_of(",,,", ONES, "AB")
        laid = [at("B", 0, 2, 1), at("A", 0, 0)]
        told = going(puzzle, laid)
        self.assertEqual(laid, [at("B", 0, 2, 1), at("A", 0, 0)])
        kept = list(told)
        told.clear()
        self.assertEqual(going(puzzle, laid), kept)
        told = going(puzzle, laid)
        laid.clear()
        self.assertEqual(told, kept)


class RightTreeTest(unittest.TestCase):
    def check(self, puzzle, laid, tree, asked):
        self.assertIs(right_tree(puzzle, laid, tree), asked, (puzzle, laid, tree))

    def right(self, puzzle, laid, *trees):
        for tree in trees:
            self.check(puzzle, laid, tree, True)

    def wrong(self, puzzle, laid, *trees):
        for tree in trees:
            self.check(puzzle, laid, tree, False)

    def test_by_hand(self):
        end_left = ("cell", (0, 0), [])
        end_right = ("cell", (0, 2), [])
        self.right(THREE, [], ("cell", (0, 0), [(LEFT, end_right)]), ("cell", (0, 2), [(RIGHT, end_left)]),
                   ("cell", (0, 1), [(LEFT, end_right), (RIGHT, end_left)]))
        self.right(THREE, [LEFT], end_right)
        self.right(THREE, [RIGHT], end_left)

    def test_nothing_goes(self):
        self.right(puzzle_of("B", ONE), [], ("cell", (0, 0), []))
        self.right(puzzle_of("#", kinds_of((1, 1, "still", "A"))), [], ("kind", 0, []))
        self.right(puzzle_of(",", kinds_of((2, 2, "still", "A"))), [at("A", 0, 0)], ("kind", 0, []))
        self.right(puzzle_of(",.", ONE, "AA"), [at("A", 0, 0)], ("cell", (0, 1), []))
        self.right(puzzle_of(",.", kinds_of((0, 1, "still", "A"))), [at("A", 0, 0)], ("cell", (0, 1), []))

    def test_without_branches_where_something_goes(self):
        self.wrong(THREE, [], *[("cell", (0, column), []) for column in range(3)])
        self.wrong(puzzle_of(",,", kinds_of((2, 2, "still", "AA"))), [], ("kind", 0, []))

    def test_branches_missing_too_many_or_out_of_order(self):
        one, two = (LEFT, ("cell", (0, 2), [])), (RIGHT, ("cell", (0, 0), []))
        self.right(THREE, [], ("cell", (0, 1), [one, two]))
        for branches in ([], [one], [two], [two, one], [one, two, two], [one, one, two], [one, one], [two, two]):
            self.wrong(THREE, [], ("cell", (0, 1), branches))

    def test_branches_without_the_cell(self):
        one, two = (LEFT, ("cell", (0, 2), [])), (RIGHT, ("cell", (0, 0), []))
        self.wrong(THREE, [], ("cell", (0, 0), [one, two]), ("cell", (0, 2), [one, two]), ("cell", (0, 0), [two]))

    def test_branches_that_are_no_placements_or_do_not_go(self):
        ending = ("cell", (0, 2), [])
        self.wrong(THREE, [LEFT], ("cell", (0, 2), [(RIGHT, ("cell", (0, 0), []))]))
        self.wrong(THREE, [], ("cell", (0, 0), [(at("AA", 0, -1), ending)]))
        self.wrong(THREE, [], ("cell", (0, 0), [(at("AA", 0, 0, 1), ending)]))
        self.wrong(THREE, [], ("cell", (0, 0), [(at("A", 0, 0), ending)]))

    def test_wrong_trees_further_down(self):
        for below in (("cell", (0, 1), []), ("cell", (0, 0), []), ("kind", 0, []), ("cell", (0, 3), []),
                      ("cell", (0, 2), [(RIGHT, ("cell", (0, 0), []))])):
            self.wrong(THREE, [], ("cell", (0, 0), [(LEFT, below)]))
            self.wrong(THREE, [], ("cell", (0, 1), [(LEFT, below), (RIGHT, ("cell", (0, 0), []))]))
            deeper = below[:2] + ([(LEFT, below)],)
            self.wrong(THREE, [], ("cell", (0, 1), [(LEFT, ("cell", (0, 2), [])), (RIGHT, deeper)]))

    def test_cells_that_need_not_be_covered(self):
        for sign in ",ab":
            puzzle = puzzle_of(sign + "B", ONE)
            self.wrong(puzzle, [], ("cell", (0, 0), []), ("cell", (0, 0), [(at("A", 0, 0), ("cell", (0, 1), []))]))
            self.right(puzzle, [], ("cell", (0, 1), []))

    def test_cells_that_are_covered_already(self):
        puzzle = puzzle_of(".B", ONE)
        self.right(puzzle, [], ("cell", (0, 0), [(at("A", 0, 0), ("cell", (0, 1), []))]))
        self.wrong(puzzle, [], ("cell", (0, 0), [(at("A", 0, 0), ("cell", (0, 0), []))]))
        self.wrong(puzzle, [at("A", 0, 0)], ("cell", (0, 0), []))

    def test_cells_that_are_not_open(self):
        puzzle = puzzle_of("B#/#B", ONE)
        self.right(puzzle, [], ("cell", (0, 0), []), ("cell", (1, 1), []))
        for cell in ((0, 1), (1, 0), (0, 2), (2, 0), (-1, 0), (0, -1), (-1, -1), (-2, -2), (2, 2), (99, 99)):
            self.wrong(puzzle, [], ("cell", cell, []))

    def test_kinds(self):
        puzzle = puzzle_of(",,,", kinds_of((2, 2, "still", "AA"), (0, 1, "still", "B")))
        ending = ("kind", 0, [])
        self.right(puzzle, [], ("kind", 0, [(LEFT, ending), (RIGHT, ending)]))
        self.wrong(puzzle, [], ("kind", 0, [(RIGHT, ending), (LEFT, ending)]), ("kind", 0, [(LEFT, ending)]))
        self.right(puzzle, [at("B", 0, 2, 1)], ("kind", 0, [(LEFT, ending)]))
        self.right(puzzle, [LEFT], ending)
        pieces = [(LEFT, ending), (at("B", 0, 0, 1), ending), (RIGHT, ending)]
        self.wrong(puzzle, [], ("kind", 0, pieces))

    def test_kinds_of_which_least_are_laid(self):
        for most in (1, 2, None):
            puzzle = puzzle_of(",B", kinds_of((1, most, "still", "A")))
            self.right(puzzle, [], ("kind", 0, [(at("A", 0, 0), ("cell", (0, 1), []))]))
            self.wrong(puzzle, [], ("kind", 0, [(at("A", 0, 0), ("kind", 0, []))]))
            self.wrong(puzzle, [at("A", 0, 0)], ("kind", 0, []))
        self.wrong(puzzle_of("B", ONE), [], ("kind", 0, []))

    def test_kinds_that_are_not_there(self):
        puzzle = puzzle_of("#", kinds_of((1, 1, "still", "A"), (1, 1, "still", "B")))
        self.right(puzzle, [], ("kind", 0, []), ("kind", 1, []))
        self.wrong(puzzle, [], *[("kind", k, []) for k in (-1, -2, 2, 3, 6, 99)])

    def test_both_sorts(self):
        puzzle = puzzle_of("..,", kinds_of((0, None, "still", "AA"), (2, 2, "still", "B")))
        ending = ("kind", 1, [(at("B", 0, 2, 1), ("kind", 1, []))])
        below = [(at("B", 0, 1, 1), ("kind", 1, [])), (RIGHT, ("kind", 1, []))]
        self.right(puzzle, [LEFT], ending)
        self.wrong(puzzle, [], ("cell", (0, 0), [(LEFT, ending), (at("B", 0, 0, 1), ("cell", (0, 1), below))]))
        puzzle = puzzle_of("..,", kinds_of((0, None, "still", "AA"), (2, 2, "still", "B")), "BB")
        below = [(RIGHT, ("kind", 1, []))]
        self.right(puzzle, [], ("cell", (0, 0), [(LEFT, ending), (at("B", 0, 0, 1), ("cell", (0, 1), below))]))

    def test_words(self):
        for word in ("kind", "Cell", "cells", "row", ""):
            self.wrong(puzzle_of("B", ONE), [], (word, (0, 0), []))

    def test_what_is_laid_is_laid_well(self):
        puzzle = puzzle_of(",,B", kinds_of((0, 1, "still", "A"), (0, None, "still", "C")), "AC")
        tree = ("cell", (0, 2), [])
        self.right(puzzle, [], tree)
        self.right(puzzle, [at("A", 0, 0)], tree)
        self.wrong(puzzle, [at("A", 0, 0), at("A", 0, 1)], tree)
        self.wrong(puzzle, [at("A", 0, 0), at("C", 0, 1, 1)], tree)
        self.wrong(puzzle, [at("C", 0, 0, 1), at("C", 0, 0, 1)], tree)

    def test_changed_trees(self):
        seen = {True: 0, False: 0}
        for puzzle in BARRED:
            for tree in itertools.islice(changed_trees(puzzle, cases(puzzle)[1]), 3000):
                asked = plainly_right(puzzle, [], tree)
                seen[asked] += 1
                self.check(puzzle, [], tree, asked)
        self.assertGreater(seen[True], 20)
        self.assertGreater(seen[False], 1000)

    def test_no_tree_is_right_where_there_are_layings(self):
        for puzzle in SMALL:
            if tried_layings(puzzle):
                for laying in tried_layings(puzzle)[:3]:
                    for k in range(len(laying) + 1):
                        laid = list(laying[:k])
                        self.wrong(puzzle, laid, *[("cell", cell, []) for cell in open_cells(puzzle[0])])
                        self.wrong(puzzle, laid, *[("kind", number, []) for number in range(len(puzzle[1]))])

    def test_deep_trees(self):
        puzzle = puzzle_of("/".join(["........"] * 8), kinds_of((0, 63, "still", "A")))
        cells = open_cells(puzzle[0])
        tree = ("cell", cells[-1], [])
        deeper = ("cell", cells[-1], [])
        for cell in cells[-2::-1]:
            tree = ("cell", cell, [(at("A", *cell), tree)])
        self.right(puzzle, [], tree)
        for k in range(3000):
            deeper = ("cell", cells[0], [(at("A", 0, 0), deeper)])
        self.wrong(puzzle, [], deeper)

    def test_handed_in_stays(self):
        tree = ("cell", (0, 1), [(LEFT, ("cell", (0, 2), [])), (RIGHT, ("cell", (0, 0), []))])
        kept = copy.deepcopy(tree)
        laid = []
        self.right(THREE, laid, tree)
        self.assertEqual((laid, tree), ([], kept))
        laid = [RIGHT]
        self.right(THREE, laid, ("cell", (0, 0), []))
        self.assertEqual(laid, [RIGHT])
        tree[2].reverse()
        self.wrong(THREE, [], tree)
        tree[2].reverse()
        self.right(THREE, [], tree)


class CasesTest(unittest.TestCase):
    PUZZLES = SMALL + BARRED + (
        puzzle_of("...../...../.....", kinds_of((0, None, "turn", "AA"))),
        puzzle_of("..../..../..../....", kinds_of((0, None, "flip", "AAA/A.."), (0, 1, "flip", "BBB/.B."))),
        puzzle_of("#...../....../....../....../....../.....#", kinds_of((0, None, "turn", "AA"))),
        puzzle_of(",,,,/,,,,/,,,,", kinds_of((2, 2, "still", "A./AA"), (3, None, "turn", "BC")), "AB", "CC"),
    )

    def test_puzzles_are_puzzles(self):
        for puzzle in self.PUZZLES:
            self.assertTrue(is_puzzle(puzzle), puzzle)

    def test_small_puzzles(self):
        seen = {"some": 0, "none": 0}
        for puzzle in self.PUZZLES:
            told = cases(puzzle)
            self.assertIsInstance(told, tuple)
            self.assertEqual(len(told), 2)
            seen[told[0]] += 1
            self.assertEqual(told[0], "some" if count(puzzle) > 0 else "none", puzzle)
            if told[0] == "some":
                self.assertIsInstance(told[1], list)
                self.assertEqual(judged(puzzle, told[1]), ("good",), puzzle)
                self.assertEqual(told[1], sorted(told[1]), puzzle)
            else:
                self.assertIs(right_tree(puzzle, [], told[1]), True, puzzle)
                self.assertTrue(plainly_right(puzzle, [], told[1]), puzzle)
        self.assertGreater(seen["some"], 10)
        self.assertGreater(seen["none"], 10)

    def test_barred_ones_have_no_laying(self):
        for puzzle in BARRED:
            if len(placements(puzzle)) < 20:
                self.assertEqual(tried_layings(puzzle), (), puzzle)
            self.assertEqual(cases(puzzle)[0], "none", puzzle)

    def test_kinds_of_values(self):
        waiting = [cases(puzzle)[1] for puzzle in BARRED]
        while waiting:
            tree = waiting.pop()
            self.assertIsInstance(tree, tuple)
            self.assertEqual(len(tree), 3)
            self.assertIn(tree[0], ("cell", "kind"))
            self.assertIsInstance(tree[2], list)
            for branch in tree[2]:
                self.assertIsInstance(branch, tuple)
                self.assertEqual(len(branch), 2)
                waiting.append(branch[1])

    def test_some(self):
        self.assertEqual(cases(puzzle_of("A", ONES)), ("some", [at("A", 0, 0)]))
        self.assertEqual(cases(puzzle_of("#", ONES)), ("some", []))

    def test_none(self):
        self.assertEqual(cases(puzzle_of("#B", ONE)), ("none", ("cell", (0, 1), [])))
        self.assertEqual(cases(puzzle_of("#", kinds_of((0, 1, "still", "A"), (1, 1, "still", "A")))),
                         ("none", ("kind", 1, [])))

    def test_told_lists_are_the_askers_own(self):
        for puzzle in BARRED:
            lists = []
            waiting = [cases(puzzle)[1]]
            while waiting:
                tree = waiting.pop()
                lists.append(tree[2])
                waiting.extend([below for piece, below in tree[2]])
            self.assertEqual(len({id(branches) for branches in lists}), len(lists))
        puzzle = puzzle_of("..", ONE)
        cases(puzzle)[1].clear()
        self.assertEqual(len(cases(puzzle)[1]), 2)
        cases(THREE)[1][2].clear()
        self.assertTrue(right_tree(THREE, [], cases(THREE)[1]))


if __name__ == "__main__":
    unittest.main()
