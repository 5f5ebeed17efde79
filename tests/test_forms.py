"""Promises 2, 4 and 5: forms, cells that touch, spots put to a form."""

import unittest

from coverpieces.forms import formed, is_form, touches
from tests.helpers import Unequal

FAR = 10 ** 49

GOOD = (
    ((0, 0, "A"),),
    ((0, 0, "Z"),),
    ((0, 0, "A"), (0, 1, "A")),
    ((0, 0, "B"), (1, 0, "A")),
    ((0, 0, "C"), (0, 1, "B"), (1, 0, "A")),
    ((0, 1, "A"), (1, 0, "A"), (1, 1, "A")),
    ((0, 0, "A"), (0, 1, "B"), (0, 2, "C"), (0, 3, "D")),
    ((0, 1, "A"), (0, 2, "A"), (1, 0, "A"), (1, 1, "A")),
    # The second spot hangs on the others only by the last ones.
    ((0, 0, "A"), (0, 2, "B"), (1, 0, "C"), (1, 1, "D"), (1, 2, "E")),
    ((0, 1, "X"), (1, 0, "X"), (1, 1, "X"), (1, 2, "X"), (2, 1, "X")),
    ((0, 0, "A"), (1, 0, "B"), (2, 0, "C"), (3, 0, "D"), (4, 0, "E"), (5, 0, "F")),
    ((0, 0, "M"), (0, 1, "M"), (0, 2, "M"), (1, 0, "N"), (1, 1, "N"), (1, 2, "N")),
    ((0, 2, "A"), (1, 2, "A"), (2, 0, "A"), (2, 1, "A"), (2, 2, "A"), (3, 0, "A")),
    # The first spot hangs on the second one only by the last row.
    ((0, 2, "A"), (1, 0, "A"), (1, 2, "A"), (2, 0, "A"), (2, 1, "A"), (2, 2, "A")),
)


class IsFormTest(unittest.TestCase):
    def refuse(self, found):
        self.assertIs(is_form(found), False, repr(found))

    def test_good_forms(self):
        for form in GOOD:
            self.assertIs(is_form(form), True, form)

    def test_each_great_letter_is_a_sign(self):
        for sign in "ABCDEFGHIJKLMNOPQRSTUVWXYZ":
            self.assertIs(is_form(((0, 0, sign),)), True, sign)

    def test_form_is_a_tuple(self):
        self.refuse([(0, 0, "A")])
        self.refuse([(0, 0, "A"), (0, 1, "A")])
        self.refuse({(0, 0, "A"): True})
        self.refuse({(0, 0, "A")})

    def test_spot_is_a_tuple_of_three(self):
        self.refuse(([0, 0, "A"],))
        self.refuse(((0, 0, "A"), [0, 1, "A"]))
        self.refuse(((0, 0),))
        self.refuse(((),))
        self.refuse(((0, "A"),))
        self.refuse(((0, 0, "A", "A"),))
        self.refuse(((0, 0, "A", 0),))
        self.refuse(("00A",))
        self.refuse((None,))
        self.refuse((0,))
        self.refuse(((0, 0, "A"), None))
        self.refuse((0, 0, "A"))
        self.refuse(({0: 0, 1: 0, 2: "A"},))

    def test_rows_and_columns_are_whole_numbers(self):
        for wrong in (False, True, "0", "", None, 0.0, 0j, (0,), [0], Unequal()):
            self.refuse(((wrong, 0, "A"),))
            self.refuse(((0, wrong, "A"),))
        for wrong in (True, "1", None, 1.0, 1j, (1,), Unequal()):
            self.refuse(((0, 0, "A"), (wrong, 0, "A")))
            self.refuse(((0, 0, "A"), (0, wrong, "A")))

    def test_sign_is_one_great_letter(self):
        for wrong in ("a", "z", "AB", "AA", "", "@", "[", "`", "0", " ", ".", "\n", "A\n",
                      "\u00c4", "\u0391", "\uff21", 0, 1, 65, True, None, ("A",), ["A"],
                      b"A", Unequal()):
            self.refuse(((0, 0, wrong),))
            self.refuse(((0, 0, "A"), (0, 1, wrong)))

    def test_no_cell_twice(self):
        self.refuse(((0, 0, "A"), (0, 0, "A")))
        self.refuse(((0, 0, "A"), (0, 0, "B")))
        self.refuse(((0, 0, "A"), (0, 1, "A"), (0, 1, "B")))
        self.refuse(((0, 0, "A"), (0, 1, "A"), (0, 1, "A"), (0, 2, "A")))

    def test_spots_are_sorted(self):
        self.refuse(((0, 1, "A"), (0, 0, "A")))
        self.refuse(((1, 0, "A"), (0, 0, "A")))
        self.refuse(((0, 0, "A"), (1, 0, "A"), (0, 1, "A")))
        self.refuse(((0, 1, "A"), (0, 0, "B"), (1, 0, "C")))

    def test_least_row_and_column_are_0(self):
        self.refuse(((1, 0, "A"),))
        self.refuse(((0, 1, "A"),))
        self.refuse(((-1, 0, "A"),))
        self.refuse(((0, -1, "A"),))
        self.refuse(((1, 1, "A"), (1, 2, "A")))
        self.refuse(((1, 0, "A"), (2, 0, "A")))
        self.refuse(((0, 1, "A"), (0, 2, "A")))
        self.refuse(((-1, 0, "A"), (0, 0, "A")))
        self.refuse(((0, -1, "A"), (0, 0, "A")))
        self.refuse(((0, 0, "A"), (1, -1, "A"), (1, 0, "A")))
        self.refuse(((FAR, 0, "A"),))
        self.refuse(((0, -FAR, "A"),))

    def test_cells_hang_together(self):
        self.refuse(((0, 0, "A"), (1, 1, "A")))
        self.refuse(((0, 1, "A"), (1, 0, "A")))
        self.refuse(((0, 0, "A"), (0, 2, "A")))
        self.refuse(((0, 0, "A"), (2, 0, "A")))
        self.refuse(((0, 0, "A"), (0, 1, "A"), (0, 3, "A")))
        self.refuse(((0, 0, "A"), (0, 2, "A"), (0, 3, "A")))
        self.refuse(((0, 0, "A"), (0, FAR, "A")))
        self.refuse(((0, 0, "A"), (FAR, 0, "A")))

    def test_two_heaps_do_not_hang_together(self):
        self.refuse(((0, 0, "A"), (0, 1, "A"), (0, 3, "A"), (0, 4, "A")))
        self.refuse(((0, 0, "A"), (0, 1, "A"), (1, 2, "A"), (1, 3, "A")))
        self.refuse(((0, 0, "A"), (0, 2, "A"), (1, 0, "A"), (1, 2, "A"), (2, 0, "A"), (2, 2, "A")))

    def test_one_to_six_spots(self):
        self.refuse(())
        self.refuse(tuple([(0, column, "A") for column in range(7)]))
        self.refuse(tuple([(row, 0, "A") for row in range(7)]))
        self.refuse(tuple([(0, column, "A") for column in range(4000)]))
        self.assertIs(is_form(tuple([(0, column, "A") for column in range(6)])), True)

    def test_other_things(self):
        for thing in (None, True, False, 0, 1, -1, FAR, 1.5, "", "A", "(0, 0, 'A')", [], {}, set(),
                      b"A", range(1), object(), Unequal(), is_form, ValueError):
            self.refuse(thing)
            self.refuse((thing,))

    def test_form_stays(self):
        spots = [(0, 1, "A"), (0, 0, "A")]
        is_form(spots)
        is_form((spots,))
        self.assertEqual(spots, [(0, 1, "A"), (0, 0, "A")])


class FormedTest(unittest.TestCase):
    def test_form_stays_a_form(self):
        for form in GOOD:
            self.assertEqual(formed(list(form)), form)

    def test_shifted_and_sorted(self):
        self.assertEqual(formed([(4, 7, "Q")]), ((0, 0, "Q"),))
        self.assertEqual(formed([(3, 5, "B"), (2, 5, "A")]), ((0, 0, "A"), (1, 0, "B")))
        self.assertEqual(formed([(2, 6, "B"), (2, 5, "A")]), ((0, 0, "A"), (0, 1, "B")))
        self.assertEqual(
            formed([(3, 2, "C"), (1, 3, "A"), (2, 3, "D"), (2, 2, "B")]),
            ((0, 1, "A"), (1, 0, "B"), (1, 1, "D"), (2, 0, "C")),
        )

    def test_sorted_by_cells_ahead_of_signs(self):
        self.assertEqual(
            formed([(1, 1, "A"), (1, 0, "B"), (0, 1, "C"), (0, 0, "D")]),
            ((0, 0, "D"), (0, 1, "C"), (1, 0, "B"), (1, 1, "A")),
        )

    def test_least_row_and_least_column_of_unlike_spots(self):
        self.assertEqual(formed([(2, 9, "A"), (5, 3, "B")]), ((0, 6, "A"), (3, 0, "B")))

    def test_not_hanging_together(self):
        self.assertEqual(
            formed([(10, 10, "C"), (1, 1, "A"), (4, 2, "B")]),
            ((0, 0, "A"), (3, 1, "B"), (9, 9, "C")),
        )

    def test_below_0(self):
        self.assertEqual(formed([(-1, -2, "A")]), ((0, 0, "A"),))
        self.assertEqual(formed([(0, 0, "A"), (-1, 0, "B")]), ((0, 0, "B"), (1, 0, "A")))
        self.assertEqual(formed([(0, 0, "A"), (0, -1, "B")]), ((0, 0, "B"), (0, 1, "A")))
        self.assertEqual(formed([(-3, 4, "A"), (2, -5, "B")]), ((0, 9, "A"), (5, 0, "B")))

    def test_numbers_of_fifty_figures(self):
        self.assertEqual(len(str(FAR)), 50)
        self.assertEqual(
            formed([(FAR + 1, -FAR, "A"), (FAR, 1 - FAR, "B"), (FAR, -FAR, "C")]),
            ((0, 0, "C"), (0, 1, "B"), (1, 0, "A")),
        )
        self.assertEqual(formed([(FAR, FAR, "A"), (-FAR, -FAR, "B")]), ((0, 0, "B"), (2 * FAR, 2 * FAR, "A")))

    def test_more_than_six_spots(self):
        spots = [(3, column, "A") for column in range(20, 10, -1)]
        self.assertEqual(formed(spots), tuple([(0, column, "A") for column in range(10)]))

    def test_no_spots(self):
        self.assertEqual(formed([]), ())

    def test_list_stays(self):
        spots = [(5, 6, "B"), (5, 5, "A"), (4, 9, "C")]
        kept = list(spots)
        formed(spots)
        self.assertEqual(spots, kept)

    def test_told_is_a_tuple_that_stays(self):
        spots = [(5, 6, "B"), (5, 5, "A")]
        told = formed(spots)
        spots.clear()
        self.assertIsInstance(told, tuple)
        self.assertIsInstance(told[0], tuple)
        self.assertEqual(told, ((0, 0, "A"), (0, 1, "B")))


class TouchesTest(unittest.TestCase):
    def check(self, cell, other, asked):
        self.assertIs(touches(cell, other), asked, (cell, other))
        self.assertIs(touches(other, cell), asked, (other, cell))

    def test_beside_each_other(self):
        self.check((3, 4), (3, 5), True)
        self.check((3, 4), (3, 3), True)
        self.check((3, 4), (2, 4), True)
        self.check((3, 4), (4, 4), True)
        self.check((0, 0), (-1, 0), True)
        self.check((0, 0), (0, -1), True)
        self.check((FAR, -FAR), (FAR + 1, -FAR), True)
        self.check((FAR, -FAR), (FAR, -FAR - 1), True)

    def test_across_a_corner(self):
        for row in (2, 4):
            for column in (3, 5):
                self.check((3, 4), (row, column), False)

    def test_alike(self):
        self.check((0, 0), (0, 0), False)
        self.check((3, 4), (3, 4), False)
        self.check((-FAR, FAR), (-FAR, FAR), False)

    def test_two_apart(self):
        self.check((3, 4), (3, 6), False)
        self.check((3, 4), (3, 2), False)
        self.check((3, 4), (1, 4), False)
        self.check((3, 4), (5, 4), False)

    def test_far_off(self):
        self.check((0, 0), (7, 7), False)
        self.check((0, 0), (0, FAR), False)
        self.check((0, 0), (FAR, 1), False)
        self.check((0, 1), (1, FAR), False)
        self.check((1, 0), (-1, 0), False)
        self.check((0, 5), (5, 0), False)
        self.check((3, 4), (4, 2), False)
        self.check((0, 3), (2, 2), False)


if __name__ == "__main__":
    unittest.main()
