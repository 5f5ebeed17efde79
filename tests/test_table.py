"""Promises 2 and 26: the table of what is half laid, and the count."""

import unittest

from coverpieces.states import begin, behind, ended, ends_well, options
from coverpieces.table import count, table
from tests.helpers import SMALL, at, kinds_of, puzzle_of, tried_layings

ONE = kinds_of((0, None, "still", "A"))
TWOS = kinds_of((0, None, "turn", "AA"))

# Too many sets of placements to be tried, but not too many rows to be walked.
MIDDLE = (
    puzzle_of("...../...../....", TWOS),
    puzzle_of(",,,/,#,/,,,", kinds_of((1, 3, "flip", "AB/A."), (2, None, "turn", "AC")), "AA", "BC"),
    puzzle_of("a,,b/.,,./B#.,", kinds_of((0, None, "flip", "AAB"), (1, 1, "still", "B"), (0, 2, "turn", "AB")), "BB"),
    puzzle_of(",,,,/,,,,/,,,,/,,,,", kinds_of((4, None, "still", "A")), "AA"),
    puzzle_of(".......", kinds_of((1, 2, "still", "A"), (0, None, "turn", "AB"), (0, 1, "still", "CCC")), "AA"),
)


def counted_layings(puzzle, state):
    """How many ways lead from a state to one that ends well, tried one by one."""
    if ended(state):
        return 1 if ends_well(puzzle, state) else 0
    return sum(counted_layings(puzzle, behind(puzzle, state, option)) for option in options(puzzle, state))


def come_to(puzzle):
    """All states that can be come to from the beginning by options."""
    found = {begin(puzzle)}
    near = [begin(puzzle)]
    while near:
        near = [behind(puzzle, state, option) for state in near for option in options(puzzle, state)]
        near = sorted(set(near) - found)
        found.update(near)
    return found


class TableTest(unittest.TestCase):
    def check(self, puzzle, asked):
        """Asked are rows whose order is given by what is promised."""
        told = table(puzzle)
        self.assertIsInstance(told, list)
        self.assertEqual(told, asked, puzzle)

    def test_row_by_row(self):
        self.check(puzzle_of(".,", ONE), [
            (("??", (0,)), [(at("A", 0, 0), 1)], 2),
            (("A?", (0,)), [(None, 2), (at("A", 0, 1), 2)], 2),
            (("--", (0,)), [], 1),
        ])

    def test_ends_that_are_well_and_others(self):
        told = table(puzzle_of(",", kinds_of((1, 1, "still", "A"))))
        self.assertEqual(told[0], (("?", (0,)), [(None, told[0][1][0][1]), (at("A", 0, 0), told[0][1][1][1])], 1))
        self.assertEqual(told[told[0][1][0][1]], (("-", (0,)), [], 0))
        self.assertEqual(told[told[0][1][1][1]], (("-", (1,)), [], 1))
        self.assertEqual(len(told), 3)

    def test_no_open_cells(self):
        self.check(puzzle_of("#", ONE), [(("", (0,)), [], 1)])
        self.check(puzzle_of("##/##", kinds_of((0, 3, "still", "A"), (1, None, "still", "A"))), [(("", (0, 0)), [], 0)])

    def test_a_state_without_options_that_is_not_ended(self):
        self.check(puzzle_of(".", kinds_of((0, 0, "still", "A"))), [(("?", (0,)), [], 0)])
        self.check(puzzle_of(".B", ONE), [
            (("??", (0,)), [(at("A", 0, 0), 1)], 0),
            (("A?", (0,)), [], 0),
        ])

    def test_ways_that_meet_are_one_row(self):
        told = table(puzzle_of(",,,", ONE))
        self.assertEqual(len(told), 6)
        self.assertEqual(told[0][2], 8)
        self.assertEqual([row[2] for row in told if row[0][0].count("?") == 1], [2, 2])
        self.assertEqual(told[-1], (("---", (0,)), [], 1))

    def test_states_unlike_by_what_is_used(self):
        told = table(puzzle_of(",,", kinds_of((0, 2, "still", "A"))))
        self.assertEqual(sorted(row[0] for row in told), [
            ("--", (0,)), ("--", (1,)), ("--", (2,)), ("-?", (0,)), ("??", (0,)), ("A?", (1,)),
        ])

    def hold(self, puzzle):
        """Hold a table against each sentence of the document."""
        told = table(puzzle)
        self.assertEqual(told[0][0], begin(puzzle))
        states = [state for state, choices, number in told]
        self.assertEqual(len(set(states)), len(states), puzzle)
        self.assertEqual(set(states), come_to(puzzle), puzzle)
        for k, row in enumerate(told):
            self.assertIsInstance(row, tuple)
            state, choices, many = row
            self.assertIsInstance(choices, list)
            self.assertEqual([option for option, number in choices], options(puzzle, state), (puzzle, state))
            for choice in choices:
                self.assertIsInstance(choice, tuple)
                self.assertGreater(choice[1], k, (puzzle, state))
                self.assertEqual(told[choice[1]][0], behind(puzzle, state, choice[0]), (puzzle, state))
            if ended(state):
                self.assertEqual(many, 1 if ends_well(puzzle, state) else 0, (puzzle, state))
            else:
                self.assertEqual(many, sum(told[number][2] for option, number in choices), (puzzle, state))
            self.assertIsInstance(many, int)
            self.assertNotIsInstance(many, bool)

    def test_every_sentence_on_small_puzzles(self):
        for puzzle in SMALL:
            self.hold(puzzle)

    def test_every_sentence_on_greater_puzzles(self):
        for puzzle in MIDDLE:
            self.hold(puzzle)

    def test_lists_are_the_askers_own(self):
        puzzle = puzzle_of(",,/,,", kinds_of((0, None, "turn", "AB")), "AB")
        kept = [(state, list(choices), number) for state, choices, number in table(puzzle)]
        told = table(puzzle)
        for state, choices, number in told:
            choices.clear()
        self.assertNotEqual(told, kept)
        told.clear()
        self.assertEqual(table(puzzle), kept)
        self.assertEqual(count(puzzle), kept[0][2])

    def test_no_two_rows_share_a_list(self):
        for puzzle in (puzzle_of(",,/,,", ONE), puzzle_of(",,", kinds_of((0, 2, "still", "A")))):
            told = table(puzzle)
            self.assertEqual(len({id(choices) for state, choices, number in told}), len(told))

    def test_handed_in_stays(self):
        puzzle = puzzle_of(",,/,a", kinds_of((0, 2, "turn", "AB")), "AB")
        table(puzzle)
        count(puzzle)
        self.assertEqual(puzzle, puzzle_of(",,/,a", kinds_of((0, 2, "turn", "AB")), "AB"))


class CountTest(unittest.TestCase):
    def check(self, puzzle, asked):
        told = count(puzzle)
        self.assertIsInstance(told, int)
        self.assertNotIsInstance(told, bool)
        self.assertEqual(told, asked, puzzle)

    def test_by_trying_all_sets_of_placements(self):
        for puzzle in SMALL:
            self.check(puzzle, len(tried_layings(puzzle)))

    def test_by_trying_all_ways(self):
        for puzzle in MIDDLE:
            self.check(puzzle, counted_layings(puzzle, begin(puzzle)))

    def test_the_count_is_that_of_row_0(self):
        for puzzle in SMALL + MIDDLE:
            self.check(puzzle, table(puzzle)[0][2])

    def test_two_rows_of_twos(self):
        for many, asked in ((1, 1), (2, 2), (3, 3), (4, 5), (5, 8), (6, 13), (7, 21), (8, 34)):
            self.check(puzzle_of("." * many + "/" + "." * many, TWOS), asked)

    def test_whole_floors_of_twos(self):
        self.check(puzzle_of("/".join(["...."] * 4), TWOS), 36)
        self.check(puzzle_of("/".join(["......"] * 6), TWOS), 6728)
        self.check(puzzle_of("/".join(["........"] * 8), TWOS), 12988816)
        self.check(puzzle_of("/".join(["........"] * 8), kinds_of((32, 32, "turn", "AA"))), 12988816)
        self.check(puzzle_of("/".join(["........"] * 8), kinds_of((0, 31, "turn", "AA"))), 0)
        self.check(puzzle_of("#......./" + "......../" * 6 + ".......#", TWOS), 0)

    def test_each_cell_left_or_covered(self):
        for many in range(1, 9):
            self.check(puzzle_of("," * many, ONE), 2 ** many)
            self.check(puzzle_of("a" * many, ONE), 2 ** many)
            self.check(puzzle_of("b" * many, ONE), 1)
            self.check(puzzle_of("." * many, kinds_of((0, None, "still", "A"), (0, None, "still", "B"))), 2 ** many)
        self.check(puzzle_of("/".join([",,,,,,,,"] * 8), ONE), 2 ** 64)

    def test_so_many_of_a_kind(self):
        for most, asked in ((0, 1), (1, 7), (2, 22), (6, 64), (7, 64), (64, 64), (None, 64)):
            self.check(puzzle_of(",,,/,,,", kinds_of((0, most, "still", "A"))), asked)
        for least, asked in ((0, 64), (1, 63), (2, 57), (5, 7), (6, 1), (7, 0), (64, 0)):
            self.check(puzzle_of(",,,/,,,", kinds_of((least, None, "still", "A"))), asked)
            self.check(puzzle_of(",,,/,,,", kinds_of((least, 64, "still", "A"))), asked)
        for many, asked in ((0, 1), (1, 6), (2, 15), (3, 20), (4, 15), (5, 6), (6, 1), (7, 0)):
            self.check(puzzle_of(",,,/,,,", kinds_of((many, many, "still", "A"))), asked)

    def test_none_side_by_side(self):
        for many, asked in ((1, 2), (2, 3), (3, 5), (4, 8), (5, 13), (8, 55)):
            self.check(puzzle_of("," * many, ONE, "AA"), asked)
        self.check(puzzle_of(",,,/,,,/,,,", ONE, "AA"), 63)

    def test_colours_by_turns(self):
        kinds = kinds_of((0, None, "still", "A"), (0, None, "still", "B"))
        self.check(puzzle_of("/".join(["........"] * 8), kinds, "AA", "BB"), 2)
        self.check(puzzle_of("/".join(["........"] * 8), kinds, "AB"), 2)
        self.check(puzzle_of("..#/#../.#.", kinds, "AB"), 4)

    def test_kinds_alike_are_told_apart(self):
        self.check(puzzle_of("..", kinds_of((0, None, "still", "A"), (0, None, "flip", "A"))), 4)
        self.check(puzzle_of("..", kinds_of((1, 1, "still", "A"), (1, 1, "flip", "A"))), 2)

    def test_beyond_the_bounds(self):
        self.check(puzzle_of("/".join(["........."] * 9), kinds_of((27, 27, "turn", "AAA"))), count(puzzle_of(
            "/".join(["........."] * 9), kinds_of((0, None, "turn", "AAA")))))
        self.check(puzzle_of("." * 10, kinds_of(*[(0, None, "still", "A")] * 6) + (
            ("g", 0, 65, "still", at("AAAAAAAAAA", 0, 0)[0]),)), 6 ** 10 + 1)


if __name__ == "__main__":
    unittest.main()
