"""Promises 2, 6, 8 and 11: floors, their cells, floors turned."""

import unittest

from coverpieces.floors import is_floor, is_open, must_be, open_cells, turned_floor, wanted
from coverpieces.turning import then, undoing
from tests.helpers import Unequal

FAR = 10 ** 49

GREAT = "ABCDEFGHIJKLMNOPQRSTUVWXYZ"
SMALL = "abcdefghijklmnopqrstuvwxyz"

FLOOR = (
    ".,#A",
    "#zb.",
    "Z##,",
)


class IsFloorTest(unittest.TestCase):
    def accept(self, found):
        self.assertIs(is_floor(found), True, repr(found))

    def refuse(self, found):
        self.assertIs(is_floor(found), False, repr(found))

    def test_one_to_eight_rows_and_columns(self):
        for height in range(1, 9):
            for width in range(1, 9):
                self.accept(("." * width,) * height)

    def test_each_sign(self):
        for sign in "#.," + GREAT + SMALL:
            self.accept((sign,))
            self.accept(("..", "." + sign))
        self.accept(FLOOR)

    def test_all_closed(self):
        self.accept(("##", "##"))

    def test_other_signs(self):
        for sign in ("@", "[", "`", "{", "?", "-", "0", "9", " ", "/", "*", "\n", "\t", "\u00c4",
                     "\u00e4", "\u00df", "\u0391", "\uff21", "\uff0e", "\u017f", "\u212a"):
            self.refuse((sign,))
            self.refuse(("...", "." + sign + "."))
            self.refuse(("...", ".." + sign))
            self.refuse((sign + "..", "..."))

    def test_rows_of_unlike_length(self):
        self.refuse(("..", "."))
        self.refuse((".", ".."))
        self.refuse(("...", "...", ".."))
        self.refuse(("...", "....", "..."))

    def test_empty_rows(self):
        self.refuse(("",))
        self.refuse(("", ""))
        self.refuse(("..", ""))
        self.refuse(("", ".."))

    def test_rows_that_are_no_texts(self):
        for row in (None, 0, 1, True, 1.5, [], ["."], (".",), (".", "."), ("..",), {}, {".": 1}, b".",
                    b"..", range(2), object(), Unequal()):
            self.refuse((row,))
            self.refuse(("..", row))
            self.refuse((row, ".."))

    def test_too_few_and_too_many(self):
        self.refuse(())
        self.refuse((".",) * 9)
        self.refuse(("........",) * 9)
        self.refuse(("." * 9,))
        self.refuse(("." * 9,) * 8)
        self.refuse(("." * 9,) * 9)
        self.refuse((".",) * 4000)
        self.refuse(("." * 4000,))

    def test_no_tuples(self):
        self.refuse(["."])
        self.refuse(["..", ".."])
        self.refuse("..")
        self.refuse({"..": True})
        self.refuse({".."})

    def test_other_things(self):
        for thing in (None, True, False, 0, 1, FAR, -1, 1.5, "", ".", "#", [], {}, set(), b".", range(1),
                      object(), Unequal(), is_floor, ValueError):
            self.refuse(thing)

    def test_handed_in_stays(self):
        found = ["..", "."]
        is_floor(found)
        is_floor((found,))
        self.assertEqual(found, ["..", "."])


class CellsTest(unittest.TestCase):
    def test_open_cells(self):
        told = open_cells(FLOOR)
        self.assertIsInstance(told, list)
        self.assertEqual(told, [
            (0, 0), (0, 1), (0, 3),
            (1, 1), (1, 2), (1, 3),
            (2, 0), (2, 3),
        ])

    def test_open_cells_of_other_floors(self):
        self.assertEqual(open_cells(("#",)), [])
        self.assertEqual(open_cells(("##", "##")), [])
        for sign in ".," + GREAT + SMALL:
            self.assertEqual(open_cells((sign,)), [(0, 0)])
        self.assertEqual(open_cells(("..", "..", "..")), [(0, 0), (0, 1), (1, 0), (1, 1), (2, 0), (2, 1)])
        whole = [(row, column) for row in range(8) for column in range(8)]
        self.assertEqual(open_cells((",,,,,,,,",) * 8), whole)

    def test_open_cells_are_the_askers_own(self):
        told = open_cells(FLOOR)
        kept = list(told)
        told.append((9, 9))
        told[0] = None
        self.assertEqual(open_cells(FLOOR), kept)

    def test_is_open_on_the_floor(self):
        for row, signs in enumerate(FLOOR):
            for column, sign in enumerate(signs):
                self.assertIs(is_open(FLOOR, (row, column)), sign != "#", (row, column))

    def test_is_open_by_signs(self):
        self.assertIs(is_open(("#",), (0, 0)), False)
        for sign in ".," + GREAT + SMALL:
            self.assertIs(is_open((sign,), (0, 0)), True, sign)

    def test_is_open_beside_the_floor(self):
        floor = ("...", "...")
        for row in range(-4, 7):
            for column in range(-5, 8):
                inside = 0 <= row < 2 and 0 <= column < 3
                self.assertIs(is_open(floor, (row, column)), inside, (row, column))

    def test_is_open_far_off(self):
        floor = ("...", "...")
        for number in (64, 4000, -64, FAR, -FAR):
            self.assertIs(is_open(floor, (number, 0)), False)
            self.assertIs(is_open(floor, (0, number)), False)
            self.assertIs(is_open(floor, (number, number)), False)
            self.assertIs(is_open(floor, (number, -number)), False)

    def test_must_be(self):
        self.assertIs(must_be((".",), (0, 0)), True)
        self.assertIs(must_be((",",), (0, 0)), False)
        for sign in GREAT:
            self.assertIs(must_be((sign,), (0, 0)), True, sign)
        for sign in SMALL:
            self.assertIs(must_be((sign,), (0, 0)), False, sign)

    def test_must_be_cell_by_cell(self):
        asked = {
            (0, 0): True, (0, 1): False, (0, 3): True,
            (1, 1): False, (1, 2): False, (1, 3): True,
            (2, 0): True, (2, 3): False,
        }
        for cell, must in asked.items():
            self.assertIs(must_be(FLOOR, cell), must, cell)

    def test_wanted(self):
        self.assertIs(wanted((".",), (0, 0)), None)
        self.assertIs(wanted((",",), (0, 0)), None)
        for great, small in zip(GREAT, SMALL):
            self.assertEqual(wanted((great,), (0, 0)), great)
            self.assertEqual(wanted((small,), (0, 0)), great)

    def test_wanted_cell_by_cell(self):
        asked = {
            (0, 0): None, (0, 1): None, (0, 3): "A",
            (1, 1): "Z", (1, 2): "B", (1, 3): None,
            (2, 0): "Z", (2, 3): None,
        }
        for cell, sign in asked.items():
            self.assertEqual(wanted(FLOOR, cell), sign, cell)


class TurnedFloorTest(unittest.TestCase):
    FLOORS = (
        ("ab#", ".,C"),
        ("ab#,", ".,Cd", "ZyX#"),
        ("A",),
        ("..", ".."),
        ("abcdefgh",),
        ("a", "b", "c", "d", "e", "f", "g", "h"),
        ("#.,AaBbC", "cDdEeFfG"),
        ("........",) * 7 + (".......A",),
    )

    def test_sign_by_sign(self):
        floor = ("ab#", ".,C")
        asked = (
            ("ab#", ".,C"),
            (".a", ",b", "C#"),
            ("C,.", "#ba"),
            ("#C", "b,", "a."),
            ("#ba", "C,."),
            ("C#", ",b", ".a"),
            (".,C", "ab#"),
            ("a.", "b,", "#C"),
        )
        for t, told in enumerate(asked):
            self.assertEqual(turned_floor(floor, t), told, t)

    def test_closed_edges_stay(self):
        self.assertEqual(turned_floor(("##.", "###"), 1), ("##", "##", "#."))
        self.assertEqual(turned_floor(("###",), 3), ("#", "#", "#"))

    def test_two_in_a_row(self):
        for floor in self.FLOORS:
            for t in range(8):
                for s in range(8):
                    two = turned_floor(turned_floor(floor, t), s)
                    self.assertEqual(two, turned_floor(floor, then(t, s)), (floor, t, s))

    def test_undoing_leads_back(self):
        for floor in self.FLOORS:
            for t in range(8):
                self.assertEqual(turned_floor(turned_floor(floor, t), undoing(t)), floor, (floor, t))

    def test_told_is_a_floor(self):
        for floor in self.FLOORS:
            for t in range(8):
                self.assertIs(is_floor(turned_floor(floor, t)), True, (floor, t))

    def test_larger_than_a_floor(self):
        self.assertEqual(turned_floor(("abcdefghi", "........."), 2), (".........", "ihgfedcba"))


if __name__ == "__main__":
    unittest.main()
