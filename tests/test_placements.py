"""Promises 2, 13 and 14: all placements of a puzzle."""

import unittest

from coverpieces.placements import placements
from coverpieces.turning import turned
from tests.helpers import form_of, spots_at


def kind(mode, picture, name="a"):
    """A kind of which as many are laid as you like."""
    return (name, 0, None, mode, form_of(picture))


def plainly_told(puzzle):
    """All placements by every turning and every shift, tried one by one."""
    signs = {}
    for row, line in enumerate(puzzle[0]):
        for column, sign in enumerate(line):
            signs[row, column] = sign
    many = {"still": 1, "turn": 4, "flip": 8}
    found = set()
    for number, (name, least, most, mode, form) in enumerate(puzzle[1]):
        for t in range(many[mode]):
            for down in range(-2, 9):
                for right in range(-2, 9):
                    spots = [(row + down, column + right, sign) for row, column, sign in turned(form, t)]
                    floor_signs = [signs.get(spot[:2], "#") for spot in spots]
                    if all(under in ".," or under.upper() == spot[2] for under, spot in zip(floor_signs, spots)):
                        found.add((tuple(sorted(spots)), number))
    return sorted(found)


class PlacementsTest(unittest.TestCase):
    def check(self, floor, kinds, asked):
        """Asked are tuples (picture, row, column, number), in the order told."""
        told = placements((floor, kinds, ()))
        self.assertIsInstance(told, list)
        self.assertEqual(told, [(spots_at(*where), number) for *where, number in asked], (floor, kinds))

    def test_spot_by_spot(self):
        puzzle = (("..", ".."), (kind("turn", "AA"),), ())
        self.assertEqual(placements(puzzle), [
            (((0, 0, "A"), (0, 1, "A")), 0),
            (((0, 0, "A"), (1, 0, "A")), 0),
            (((0, 1, "A"), (1, 1, "A")), 0),
            (((1, 0, "A"), (1, 1, "A")), 0),
        ])

    def test_one_cell(self):
        for mode in ("still", "turn", "flip"):
            self.check((".",), (kind(mode, "A"),), [("A", 0, 0, 0)])
            self.check((",",), (kind(mode, "A"),), [("A", 0, 0, 0)])
            self.check(("#",), (kind(mode, "A"),), [])

    def test_every_place(self):
        self.check(("...", "..."), (kind("still", "A"),), [
            ("A", 0, 0, 0), ("A", 0, 1, 0), ("A", 0, 2, 0), ("A", 1, 0, 0), ("A", 1, 1, 0), ("A", 1, 2, 0),
        ])

    def test_nothing_goes_beyond_the_floor(self):
        self.check(("..", ".."), (kind("still", "AAA"),), [])
        self.check(("..",), (kind("flip", "A/A"),), [("AA", 0, 0, 0)])
        self.check(("..",), (kind("still", "A/A"),), [])
        self.check(("..", ".."), (kind("still", ".A/AA"),), [(".A/AA", 0, 0, 0)])
        self.check(("...", "..."), (kind("still", ".A/AA"),), [(".A/AA", 0, 0, 0), (".A/AA", 0, 1, 0)])

    def test_all_closed(self):
        self.check(("##", "##"), (kind("flip", "A"),), [])

    def test_closed_cells(self):
        self.check((".#.", "..."), (kind("turn", "AA"),), [
            ("A/A", 0, 0, 0), ("A/A", 0, 2, 0), ("AA", 1, 0, 0), ("AA", 1, 1, 0),
        ])
        self.check(("..#", ".#.", "#.."), (kind("flip", "AA/A"),), [("AA/A", 0, 0, 0), (".A/AA", 1, 1, 0)])

    def test_cells_that_may_be_left(self):
        self.check((".,.",), (kind("turn", "AA"),), [("AA", 0, 0, 0), ("AA", 0, 1, 0)])
        self.check((",,",), (kind("turn", "AA"),), [("AA", 0, 0, 0)])

    def test_wanted_signs(self):
        for floor in (("AB",), ("Ab",), ("aB",), ("ab",), ("A.",), (".B",), ("a,",), (",b",)):
            self.check(floor, (kind("turn", "AB"),), [("AB", 0, 0, 0)])
        for floor in (("BA",), ("bA",), ("ba",), ("b.",), (",A",)):
            self.check(floor, (kind("turn", "AB"),), [("BA", 0, 0, 0)])
        for floor in (("AA",), ("bb",), ("C.",), (".c",), ("Z,",), ("aa",)):
            self.check(floor, (kind("turn", "AB"),), [])

    def test_wanted_signs_among_others(self):
        self.check(("A.b", ".#a"), (kind("turn", "AB"),), [
            ("AB", 0, 0, 0), ("A/B", 0, 0, 0), ("AB", 0, 1, 0), ("B/A", 0, 2, 0),
        ])

    def test_modes_of_one_line(self):
        self.check(("..",), (kind("still", "AB"),), [("AB", 0, 0, 0)])
        self.check(("..",), (kind("turn", "AB"),), [("AB", 0, 0, 0), ("BA", 0, 0, 0)])
        self.check(("..",), (kind("flip", "AB"),), [("AB", 0, 0, 0), ("BA", 0, 0, 0)])

    def test_modes_of_a_form_without_likeness(self):
        floor = ("...", "...")
        self.check(floor, (kind("still", "AAA/A.."),), [("AAA/A..", 0, 0, 0)])
        self.check(floor, (kind("turn", "AAA/A.."),), [("AAA/A..", 0, 0, 0), ("..A/AAA", 0, 0, 0)])
        self.check(floor, (kind("flip", "AAA/A.."),), [
            ("AAA/A..", 0, 0, 0), ("AAA/..A", 0, 0, 0), ("A../AAA", 0, 0, 0), ("..A/AAA", 0, 0, 0),
        ])

    def test_forms_that_are_the_same_turned(self):
        for mode in ("still", "turn", "flip"):
            self.check(("..", ".."), (kind(mode, "AA/AA"),), [("AA/AA", 0, 0, 0)])
            self.check(("...", "...", "..."), (kind(mode, "AA/AA"),), [
                ("AA/AA", 0, 0, 0), ("AA/AA", 0, 1, 0), ("AA/AA", 1, 0, 0), ("AA/AA", 1, 1, 0),
            ])
        self.check(("..", ".."), (kind("flip", "AB/BA"),), [("AB/BA", 0, 0, 0), ("BA/AB", 0, 0, 0)])

    def test_several_kinds(self):
        kinds = (kind("still", "B", "one"), kind("still", "A", "two"), kind("turn", "AA", "three"))
        self.check(("..",), kinds, [
            ("A", 0, 0, 1), ("AA", 0, 0, 2), ("B", 0, 0, 0), ("A", 0, 1, 1), ("B", 0, 1, 0),
        ])

    def test_kinds_of_one_form(self):
        kinds = (kind("still", "A", "b"), kind("flip", "A", "a"), kind("turn", "A", "c"))
        self.check((".", ","), kinds, [
            ("A", 0, 0, 0), ("A", 0, 0, 1), ("A", 0, 0, 2), ("A", 1, 0, 0), ("A", 1, 0, 1), ("A", 1, 0, 2),
        ])

    def test_bounds_and_pairs_take_nothing_away(self):
        for least, most in ((0, 0), (1, 1), (64, 64), (0, None)):
            puzzle = (("..",), (("a", least, most, "still", form_of("AB")),), (("A", "A"), ("A", "B"), ("B", "B")))
            self.assertEqual(placements(puzzle), [(spots_at("AB", 0, 0), 0)])

    def test_by_every_turning_and_shift(self):
        floors = (
            ("....", "....", "...."), (".#a.", "b,.A", "#..,"), ("ABAB", "baba", ",,,,"), ("........",) * 3,
            ("A",), ("abc#",), ("#", ".", ".", ".", ".", ".", ".", ","),
        )
        pictures = ("A", "AB", "AAA/A..", "AB/.A", ".AA/AA.", "A.B/BAA", "AAAAAA", ".B./BAB/.B.", "A/B/A/B")
        for floor in floors:
            for mode in ("still", "turn", "flip"):
                for k, picture in enumerate(pictures):
                    kinds = (kind(mode, picture, "a"), kind("turn", pictures[k - 1], "b"))
                    self.assertEqual(placements((floor, kinds, ())), plainly_told((floor, kinds, ())), (floor, kinds))

    def test_beyond_the_bounds(self):
        self.check(("." * 9,), (kind("turn", "ABCDEFGHI"),), [("ABCDEFGHI", 0, 0, 0), ("IHGFEDCBA", 0, 0, 0)])
        self.check((".", ".", "#", ".", ".", ".", ".", ".", ".", "."), (kind("flip", "AAAAAAA"),), [
            ("A/A/A/A/A/A/A", 3, 0, 0),
        ])
        self.assertEqual(placements((("..",), (("a", 0, 1, "still", ()),), ())), [((), 0)])

    def test_told_list_is_the_askers_own(self):
        puzzle = (("..", ".."), (kind("turn", "AB"),), ())
        told = placements(puzzle)
        kept = list(told)
        told.reverse()
        told.append("more")
        told[0] = None
        self.assertEqual(placements(puzzle), kept)
        self.assertIsNot(placements(puzzle), placements(puzzle))

    def test_handed_in_stays(self):
        puzzle = ((".b", ",#"), (kind("flip", "AB"),), (("A", "B"),))
        placements(puzzle)
        self.assertEqual(puzzle, ((".b", ",#"), (("a", 0, None, "flip", ((0, 0, "A"), (0, 1, "B"))),), (("A", "B"),)))


if __name__ == "__main__":
    unittest.main()
