"""Promises 2 and 20 to 22: states, their options, and what lies behind them."""

import unittest

from coverpieces.floors import must_be, open_cells
from coverpieces.forms import touches
from coverpieces.placements import placements
from coverpieces.states import begin, behind, ended, ends_well, options
from tests.helpers import SMALL, at, kinds_of, puzzle_of

ONE = kinds_of((0, None, "still", "A"))
ONES = kinds_of((0, None, "still", "A"), (0, None, "still", "B"), (0, None, "still", "C"))
TWOS = kinds_of((0, None, "turn", "AB"))


def state_behind(puzzle, steps):
    """The state that is come to from the beginning by told options."""
    state = begin(puzzle)
    for step in steps:
        state = behind(puzzle, state, step)
    return state


def plain_state(puzzle, laid, left):
    """The state by the document's words, from all that is laid and the cells that are left."""
    floor, kinds, apart = puzzle
    over = {(row, column): sign for spots, number in laid for row, column, sign in spots}
    marks = ""
    for cell in open_cells(floor):
        around = [other for other in open_cells(floor) if touches(cell, other)]
        if cell not in over and cell not in left:
            marks += "?"
        elif cell in over and any(other not in over and other not in left for other in around):
            marks += over[cell]
        else:
            marks += "-"
    used = []
    for k, (name, least, most, mode, form) in enumerate(kinds):
        many = sum(number == k for spots, number in laid)
        used.append(least if most is None and many > least else many)
    return (marks, tuple(used))


def plain_options(puzzle, laid, left):
    """The options by the document's words, from all that is laid and the cells that are left."""
    floor, kinds, apart = puzzle
    over = {(row, column): sign for spots, number in laid for row, column, sign in spots}
    undecided = [cell for cell in open_cells(floor) if cell not in over and cell not in left]
    found = []
    if undecided and not must_be(floor, undecided[0]):
        found.append(None)
    for spots, number in placements(puzzle):
        most = kinds[number][2]
        if not undecided or spots[0][:2] != undecided[0]:
            continue
        if any(spot[:2] not in undecided for spot in spots):
            continue
        if most is not None and sum(other == number for covered, other in laid) >= most:
            continue
        pairs = [tuple(sorted([spot[2], over[cell]])) for spot in spots for cell in over if touches(spot[:2], cell)]
        if not any(pair in apart for pair in pairs):
            found.append((spots, number))
    return found


def plainly_ends_well(puzzle, laid, left):
    floor, kinds, apart = puzzle
    decided = len(left) + sum(len(spots) for spots, number in laid)
    enough = all(sum(number == k for spots, number in laid) >= kind[1] for k, kind in enumerate(kinds))
    return decided == len(open_cells(floor)) and enough


class BeginTest(unittest.TestCase):
    def check(self, floor, kinds, asked):
        told = begin(puzzle_of(floor, kinds))
        self.assertIsInstance(told, tuple)
        self.assertEqual(told, asked, (floor, kinds))

    def test_a_mark_for_each_open_cell(self):
        self.check(".", ONE, ("?", (0,)))
        self.check(".,Aa", ONE, ("????", (0,)))
        self.check(".#/#,/a#", ONE, ("???", (0,)))
        self.check("......../" * 7 + "........", ONE, ("?" * 64, (0,)))

    def test_no_open_cells(self):
        self.check("#", ONE, ("", (0,)))
        self.check("##/##", ONES, ("", (0, 0, 0)))

    def test_a_number_for_each_kind(self):
        self.check(".", ONES, ("?", (0, 0, 0)))
        bounds = ((3, None), (2, 5), (0, 0), (64, 64), (1, None), (0, None))
        self.check(".", kinds_of(*[(least, most, "still", "A") for least, most in bounds]), ("?", (0, 0, 0, 0, 0, 0)))


class OptionsTest(unittest.TestCase):
    def check(self, puzzle, steps, asked):
        told = options(puzzle, state_behind(puzzle, steps))
        self.assertIsInstance(told, list)
        self.assertEqual(told, asked, (puzzle, steps))

    def test_left_where_it_may_be(self):
        self.check(puzzle_of(",", ONE), [], [None, at("A", 0, 0)])
        self.check(puzzle_of("a", ONE), [], [None, at("A", 0, 0)])
        self.check(puzzle_of("b", ONE), [], [None])
        self.check(puzzle_of(".", ONE), [], [at("A", 0, 0)])
        self.check(puzzle_of("A", ONE), [], [at("A", 0, 0)])
        self.check(puzzle_of("B", ONE), [], [])

    def test_of_the_first_undecided_cell(self):
        puzzle = puzzle_of("#,/.,", ONE)
        self.check(puzzle, [], [None, at("A", 0, 1)])
        self.check(puzzle, [None], [at("A", 1, 0)])
        self.check(puzzle, [at("A", 0, 1)], [at("A", 1, 0)])
        self.check(puzzle, [None, at("A", 1, 0)], [None, at("A", 1, 1)])

    def test_rows_come_ahead_of_columns(self):
        puzzle = puzzle_of(",,/,,", ONE)
        steps = []
        for row, column in ((0, 0), (0, 1), (1, 0), (1, 1)):
            self.check(puzzle, steps, [None, at("A", row, column)])
            steps.append(None)

    def test_sorted_with_none_first(self):
        bounds = ((0, None, "still", "B"), (0, None, "turn", "AB"), (0, None, "still", "A"), (0, 1, "still", "A"))
        self.check(puzzle_of(",,/,,", kinds_of(*bounds)), [], [
            None, at("A", 0, 0, 2), at("A", 0, 0, 3), at("AB", 0, 0, 1), at("A/B", 0, 0, 1), at("B", 0, 0, 0),
            at("BA", 0, 0, 1), at("B/A", 0, 0, 1),
        ])

    def test_the_first_cell_is_that_of_the_first_spot(self):
        puzzle = puzzle_of(",,/,,", kinds_of((0, None, "still", ".A/AA")))
        self.check(puzzle, [], [None])
        self.check(puzzle, [None], [None, at(".A/AA", 0, 0)])
        self.check(puzzle, [None, None], [None])

    def test_an_open_floor_at_the_beginning(self):
        puzzle = puzzle_of("../..", kinds_of((0, None, "turn", "AA/A.")))
        self.check(puzzle, [], [at("AA/A.", 0, 0), at("AA/.A", 0, 0), at("A./AA", 0, 0)])
        self.check(puzzle, [at("AA/A.", 0, 0)], [])

    def test_all_cells_undecided(self):
        puzzle = puzzle_of(",,/,,", TWOS)
        self.check(puzzle, [None], [None, at("A/B", 0, 1), at("B/A", 0, 1)])
        self.check(puzzle, [None, at("A/B", 0, 1)], [None])
        self.check(puzzle, [None, None], [None, at("AB", 1, 0), at("BA", 1, 0)])
        self.check(puzzle, [at("A/B", 0, 0)], [None, at("A/B", 0, 1), at("B/A", 0, 1)])

    def test_a_later_cell_decided_already(self):
        puzzle = puzzle_of("...", kinds_of((0, None, "still", "A"), (0, None, "still", "AA")))
        self.check(puzzle, [at("A", 0, 0)], [at("A", 0, 1), at("AA", 0, 1, 1)])
        puzzle = puzzle_of(",,/..", kinds_of((0, None, "still", "A/A"), (0, None, "still", "AA")))
        self.check(puzzle, [None, at("A/A", 0, 1)], [])

    def test_fewer_than_most_are_laid(self):
        puzzle = puzzle_of(",,,", kinds_of((0, 2, "still", "A"), (0, 0, "still", "B"), (0, 1, "still", "C")))
        one, two, three = [at("A", 0, 0), at("A", 0, 1), at("A", 0, 2)]
        self.check(puzzle, [], [None, one, at("C", 0, 0, 2)])
        self.check(puzzle, [one], [None, two, at("C", 0, 1, 2)])
        self.check(puzzle, [one, two], [None, at("C", 0, 2, 2)])
        self.check(puzzle, [one, at("C", 0, 1, 2)], [None, three])
        self.check(puzzle, [None, None], [None, three, at("C", 0, 2, 2)])

    def test_as_many_as_you_like(self):
        for least in (0, 1, 2, 64):
            puzzle = puzzle_of(".....", kinds_of((least, None, "still", "A")))
            for k in range(5):
                self.check(puzzle, [at("A", 0, j) for j in range(k)], [at("A", 0, k)])

    def test_at_least_hinders_nothing(self):
        puzzle = puzzle_of(",", kinds_of((5, 5, "still", "A"), (0, 1, "still", "B")))
        self.check(puzzle, [], [None, at("A", 0, 0), at("B", 0, 0, 1)])

    def test_apart_to_the_left(self):
        puzzle = puzzle_of("...", ONES, "AB", "CC")
        self.check(puzzle, [at("A", 0, 0)], [at("A", 0, 1), at("C", 0, 1, 2)])
        self.check(puzzle, [at("B", 0, 0, 1)], [at("B", 0, 1, 1), at("C", 0, 1, 2)])
        self.check(puzzle, [at("C", 0, 0, 2)], [at("A", 0, 1), at("B", 0, 1, 1)])

    def test_apart_above(self):
        puzzle = puzzle_of(",/,", ONES, "AA", "BC")
        self.check(puzzle, [at("A", 0, 0)], [None, at("B", 1, 0, 1), at("C", 1, 0, 2)])
        self.check(puzzle, [at("B", 0, 0, 1)], [None, at("A", 1, 0), at("B", 1, 0, 1)])
        self.check(puzzle, [at("C", 0, 0, 2)], [None, at("A", 1, 0), at("C", 1, 0, 2)])

    def test_apart_below(self):
        puzzle = puzzle_of("..,/..,", kinds_of((0, None, "still", "A./AB"), (0, None, "still", "C")), "BC")
        self.check(puzzle, [at("A./AB", 0, 0)], [])
        puzzle = puzzle_of("..,/..,", kinds_of((0, None, "still", "A./AB"), (0, None, "still", "C")), "CC")
        self.check(puzzle, [at("A./AB", 0, 0)], [at("C", 0, 1, 1)])

    def test_apart_to_the_right(self):
        kinds = kinds_of((0, None, "still", ".A/BA"), (0, None, "still", "C"))
        laid = [None, None, at(".A/BA", 0, 1)]
        self.check(puzzle_of(",,,/,,,", kinds, "BC"), laid, [None])
        self.check(puzzle_of(",,,/,,,", kinds, "AC"), laid, [None, at("C", 1, 0, 1)])

    def test_apart_at_a_later_spot(self):
        kinds = kinds_of((0, None, "still", "A"), (0, None, "still", "CB"), (0, None, "still", "C/B"))
        puzzle = puzzle_of(",,,/,,,", kinds, "AB")
        self.check(puzzle, [None, None, at("A", 0, 2)], [None, at("A", 1, 0), at("CB", 1, 0, 1)])
        self.check(puzzle, [None, at("A", 0, 1), None], [None, at("A", 1, 0)])
        self.check(puzzle, [at("A", 0, 0), None, None], [None, at("A", 1, 0), at("CB", 1, 0, 1)])

    def test_a_placement_goes_with_itself(self):
        puzzle = puzzle_of("..../....", kinds_of((0, None, "still", "AA")), "AA")
        self.check(puzzle, [], [at("AA", 0, 0)])
        self.check(puzzle, [at("AA", 0, 0)], [])

    def test_cells_that_are_left_hinder_nothing(self):
        self.check(puzzle_of(",,", ONE, "AA"), [None], [None, at("A", 0, 1)])
        self.check(puzzle_of(",,,", ONE, "AA"), [at("A", 0, 0), None], [None, at("A", 0, 2)])

    def test_slanting_cells_hinder_nothing(self):
        puzzle = puzzle_of(",,/,,", ONE, "AA")
        self.check(puzzle, [at("A", 0, 0), None, None], [None, at("A", 1, 1)])
        self.check(puzzle, [None, at("A", 0, 1)], [None, at("A", 1, 0)])

    def test_closed_cells_between(self):
        self.check(puzzle_of(",#,", ONE, "AA"), [at("A", 0, 0)], [None, at("A", 0, 2)])
        self.check(puzzle_of(",/#/,", ONE, "AA"), [at("A", 0, 0)], [None, at("A", 2, 0)])
        self.check(puzzle_of(",,/##/,,", ONE, "AA"), [at("A", 0, 0), None], [None, at("A", 2, 0)])

    def test_row_ends_don_t_touch_row_begins(self):
        self.check(puzzle_of("#./.#", ONE, "AA"), [at("A", 0, 1)], [at("A", 1, 0)])
        self.check(puzzle_of(",,/,,", ONE, "AA"), [None, at("A", 0, 1)], [None, at("A", 1, 0)])

    def test_none_where_no_cell_is_undecided(self):
        self.check(puzzle_of("#", ONE), [], [])
        self.check(puzzle_of(",", ONE), [None], [])
        self.check(puzzle_of(",", ONE), [at("A", 0, 0)], [])
        self.check(puzzle_of("../..", TWOS), [at("A/B", 0, 0), at("A/B", 0, 1)], [])

    def test_told_list_is_the_askers_own(self):
        puzzle = puzzle_of(",,", TWOS)
        state = begin(puzzle)
        told = options(puzzle, state)
        kept = list(told)
        told.reverse()
        told.append("more")
        self.assertEqual(options(puzzle, state), kept)
        ends = options(puzzle, ("--", (0,)))
        ends.append("more")
        self.assertEqual(options(puzzle, ("--", (0,))), [])


class BehindTest(unittest.TestCase):
    def check(self, puzzle, steps, asked):
        """Asked is the state behind each of the steps."""
        state = begin(puzzle)
        for step, marks, used in zip(steps, asked[::2], asked[1::2]):
            state = behind(puzzle, state, step)
            self.assertIsInstance(state, tuple)
            self.assertEqual(state, (marks, used), (puzzle, step))

    def test_left(self):
        self.check(puzzle_of(",,,", ONE), [None, None, None], ["-??", (0,), "--?", (0,), "---", (0,)])
        self.check(puzzle_of("a#/,b", ONE), [None, None, None], ["-??", (0,), "--?", (0,), "---", (0,)])

    def test_signs_stay_while_they_touch_an_undecided_cell(self):
        self.check(puzzle_of("...", ONES), [at("A", 0, 0), at("B", 0, 1, 1), at("C", 0, 2, 2)],
                   ["A??", (0, 0, 0), "-B?", (0, 0, 0), "---", (0, 0, 0)])
        self.check(puzzle_of("../..", ONES), [at("A", 0, 0), at("B", 0, 1, 1), at("C", 1, 0, 2), at("A", 1, 1)],
                   ["A???", (0, 0, 0), "AB??", (0, 0, 0), "-BC?", (0, 0, 0), "----", (0, 0, 0)])

    def test_cells_that_are_left_stay_so(self):
        self.check(puzzle_of(",,/,,", ONES), [None, at("B", 0, 1, 1), None, None],
                   ["-???", (0, 0, 0), "-B??", (0, 0, 0), "-B-?", (0, 0, 0), "----", (0, 0, 0)])

    def test_leaving_a_cell_ends_the_signs_beside_it(self):
        self.check(puzzle_of(",,", ONES), [at("A", 0, 0), None], ["A?", (0, 0, 0), "--", (0, 0, 0)])
        self.check(puzzle_of(",/,", ONES), [at("C", 0, 0, 2), None], ["C?", (0, 0, 0), "--", (0, 0, 0)])

    def test_several_cells_at_once(self):
        self.check(puzzle_of("..../....", kinds_of((0, None, "still", "ABC"), (0, None, "still", "D/E"))),
                   [at("ABC", 0, 0), at("D/E", 0, 3, 1), at("ABC", 1, 0)],
                   ["ABC?????", (0, 0), "ABC-???E", (0, 0), "--------", (0, 0)])

    def test_a_cell_decided_far_ahead(self):
        self.check(puzzle_of("../../..", kinds_of((0, None, "still", "A/B/C"))), [at("A/B/C", 0, 0), at("A/B/C", 0, 1)],
                   ["A?B?C?", (0,), "------", (0,)])
        self.check(puzzle_of(",,/,,/,,", kinds_of((0, None, "still", "A/B/C"))), [at("A/B/C", 0, 0), None, None, None],
                   ["A?B?C?", (0,), "--B?C?", (0,), "----C?", (0,), "------", (0,)])

    def test_the_middle_of_a_form_is_done_at_once(self):
        self.check(puzzle_of(",,,/,,,/,,,", kinds_of((0, None, "still", ".A./BCD/.E."))),
                   [None, at(".A./BCD/.E.", 0, 0), None, None, None],
                   ["-????????", (0,), "-A?B-D?E?", (0,), "---B-D?E?", (0,), "-----D-E?", (0,), "---------", (0,)])

    def test_closed_cells_are_no_undecided_ones(self):
        self.check(puzzle_of(".#.", ONE), [at("A", 0, 0), at("A", 0, 2)], ["-?", (0,), "--", (0,)])
        self.check(puzzle_of(".#/#.", ONE), [at("A", 0, 0), at("A", 1, 1)], ["-?", (0,), "--", (0,)])
        self.check(puzzle_of("./#/.", ONE), [at("A", 0, 0)], ["-?", (0,)])
        self.check(puzzle_of("..#/#..", kinds_of((0, None, "still", "AB"))), [at("AB", 0, 0)], ["-B??", (0,)])

    def test_row_ends_don_t_touch_row_begins(self):
        self.check(puzzle_of("#./.#", ONE), [at("A", 0, 1)], ["-?", (0,)])

    def test_used_up_to_most(self):
        self.check(puzzle_of(",,,,", kinds_of((1, 3, "still", "A"), (0, 4, "still", "B"))),
                   [at("A", 0, 0), at("A", 0, 1), at("B", 0, 2, 1), at("A", 0, 3)],
                   ["A???", (1, 0), "-A??", (2, 0), "--B?", (2, 1), "----", (3, 1)])

    def test_used_up_to_least_where_most_is_none(self):
        self.check(puzzle_of(",,,,", kinds_of((2, None, "still", "A"))), [at("A", 0, k) for k in range(4)],
                   ["A???", (1,), "-A??", (2,), "--A?", (2,), "----", (2,)])
        self.check(puzzle_of(",,", kinds_of((0, None, "still", "A"))), [at("A", 0, k) for k in range(2)],
                   ["A?", (0,), "--", (0,)])
        self.check(puzzle_of(",,", kinds_of((64, None, "still", "A"))), [at("A", 0, k) for k in range(2)],
                   ["A?", (1,), "--", (2,)])

    def test_used_of_its_own_kind_alone(self):
        kinds = kinds_of((1, None, "still", "A"), (1, None, "still", "B"), (0, 9, "still", "A"))
        self.check(puzzle_of(",,,,", kinds), [at("B", 0, 0, 1), at("A", 0, 1, 2), at("A", 0, 2), at("B", 0, 3, 1)],
                   ["B???", (0, 1, 0), "-A??", (0, 1, 1), "--A?", (1, 1, 1), "----", (1, 1, 1)])

    def test_leaving_uses_nothing(self):
        self.check(puzzle_of(",,", kinds_of((1, 2, "still", "A"))), [at("A", 0, 0), None], ["A?", (1,), "--", (1,)])

    def test_beyond_the_bounds(self):
        puzzle = puzzle_of("." * 9, kinds_of((0, 70, "still", "AAAAAAA"), (65, None, "still", "A")))
        self.check(puzzle, [at("AAAAAAA", 0, 0), at("A", 0, 7, 1), at("A", 0, 8, 1)],
                   ["------A??", (1, 0), "-------A?", (1, 1), "---------", (1, 2)])
        self.assertEqual(options(puzzle, begin(puzzle)), [at("A", 0, 0, 1), at("AAAAAAA", 0, 0)])
        without_spots = ((",",), (("a", 0, 1, "still", ()),), ())
        self.assertEqual(options(without_spots, begin(without_spots)), [None])


class EndTest(unittest.TestCase):
    def check(self, puzzle, steps, end, well):
        state = state_behind(puzzle, steps)
        self.assertIs(ended(state), end, (puzzle, steps))
        self.assertIs(ends_well(puzzle, state), well, (puzzle, steps))

    def test_ended_where_no_cell_is_undecided(self):
        puzzle = puzzle_of(",,", ONE)
        self.check(puzzle, [], False, False)
        self.check(puzzle, [None], False, False)
        self.check(puzzle, [at("A", 0, 0)], False, False)
        self.check(puzzle, [None, None], True, True)
        self.check(puzzle, [at("A", 0, 0), None], True, True)

    def test_a_state_without_options_is_not_ended_by_that(self):
        puzzle = puzzle_of(".B", ONE)
        self.assertEqual(options(puzzle, state_behind(puzzle, [at("A", 0, 0)])), [])
        self.check(puzzle, [at("A", 0, 0)], False, False)

    def test_floors_without_open_cells(self):
        self.check(puzzle_of("#", ONE), [], True, True)
        self.check(puzzle_of("##/##", kinds_of((1, None, "still", "A"))), [], True, False)

    def test_least_of_each_kind(self):
        kinds = kinds_of((1, None, "still", "A"), (1, 2, "still", "B"))
        first = [at("A", 0, 0), at("B", 0, 0, 1), None]
        second = [at("A", 0, 1), at("B", 0, 1, 1), None]
        for j, one in enumerate(first):
            for k, other in enumerate(second):
                self.check(puzzle_of(",,", kinds), [one, other], True, (j, k) in ((0, 1), (1, 0)))

    def test_just_least_and_more(self):
        for least in range(5):
            for most in (3, None):
                for laid in range(4):
                    puzzle = puzzle_of(",,,", kinds_of((least, most, "still", "A")))
                    steps = [at("A", 0, k) for k in range(laid)] + [None] * (3 - laid)
                    self.check(puzzle, steps, True, laid >= least)

    def test_enough_but_not_ended(self):
        self.check(puzzle_of(",,", kinds_of((1, 1, "still", "A"))), [at("A", 0, 0)], False, False)


class EveryStepTest(unittest.TestCase):
    def walk(self, puzzle, state, laid, left):
        """Hold each state that is come to against the document's words, whatever way leads there."""
        self.assertEqual(state, plain_state(puzzle, laid, left), (puzzle, laid, left))
        found = options(puzzle, state)
        self.assertEqual(found, plain_options(puzzle, laid, left), (puzzle, laid, left))
        self.assertIs(ended(state), "?" not in state[0])
        self.assertIs(ends_well(puzzle, state), plainly_ends_well(puzzle, laid, left), (puzzle, laid, left))
        for option in found:
            after = behind(puzzle, state, option)
            if option is None:
                self.walk(puzzle, after, laid, left + [open_cells(puzzle[0])[state[0].index("?")]])
            else:
                self.walk(puzzle, after, laid + [option], left)

    def test_small_puzzles(self):
        for puzzle in SMALL:
            self.walk(puzzle, begin(puzzle), [], [])

    def test_winding_forms(self):
        kinds = kinds_of((0, 2, "flip", "AB./.CA"), (0, None, "turn", "BA"))
        for pairs in ((), ("AA",), ("AB", "CC")):
            self.walk(puzzle_of(".,,/,#,/,,.", kinds, *pairs), begin(puzzle_of(".,,/,#,/,,.", kinds)), [], [])


class HandedInTest(unittest.TestCase):
    def test_handed_in_stays(self):
        kinds = (("a", 1, None, "turn", ((0, 0, "A"), (0, 1, "B"))),)
        puzzle = ((",,", ",#"), kinds, (("A", "B"),))
        state = begin(puzzle)
        step = options(puzzle, state)[1]
        behind(puzzle, state, step)
        ended(state)
        ends_well(puzzle, state)
        self.assertEqual(state, ("???", (0,)))
        self.assertEqual(step, (((0, 0, "A"), (0, 1, "B")), 0))
        self.assertEqual(puzzle, ((",,", ",#"), (("a", 1, None, "turn", ((0, 0, "A"), (0, 1, "B"))),), (("A", "B"),)))


if __name__ == "__main__":
    unittest.main()
