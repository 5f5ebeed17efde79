"""Promises 2, 39 and 40: pictures of layings, and the desk."""

import unittest

from coverpieces.cases import cases
from coverpieces.desk import Desk, picture
from coverpieces.errors import NoNumber, NoPuzzle, NoText
from coverpieces.likeness import classes
from coverpieces.numbers import layings
from coverpieces.sums import sums
from coverpieces.table import count
from coverpieces.texts import shown
from tests.helpers import BARRED, SMALL, Unequal, at, kinds_of, puzzle_of

ONE = kinds_of((0, None, "still", "A"))
TWOS = kinds_of((0, None, "turn", "AA"))
SIGNS = "abcdefghijklmnopqrstuvwxyzABCDEFGHIJKLMNOPQRSTUVWXYZ0123456789+*"

SQUARE = "floor ../..\npiece two 0 any turn AB"
NONE = "floor ...\npiece two 0 any turn AA"

# Texts that a desk never answers, whether it keeps a puzzle or not.
NOTHING = (
    "", " ", "\n", "Count", "COUNT", "counts", "count ", " count", "count\n", "\ncount", "count 1", "count count",
    "lay", "lay ", "lay  0", "lay 0 ", " lay 0", "lay 0\n", "lay\n0", "lay\t0", "lay 00", "lay 01", "lay -1", "lay +1",
    "lay 1.0", "lay x", "lay 0x1", "lay 1_0", "lay 1 2", "lay " + "1" * 61, "lay " + "0" * 60, "lay \u0661",
    "last ", "last 0", "Last", "las", "lasts", "classes 1", "class", " classes", "cases ", "case", "cases none",
    "sums", "sums ", "sums  2", "sums 02", "sums 00", "sums 2 ", "sums 2 3", "sums 101", "sums 002", "sums -2",
    "sums two", "sums 2\n", "sums\n2", "sums \u0662", "puzzle", "puzzle ", "puzzles", "Puzzle\n" + SQUARE,
    " puzzle\n" + SQUARE, "puzzle " + SQUARE, "puzzle\r\n" + SQUARE, "puzzle" + SQUARE, "\npuzzle\n" + SQUARE,
    "floor .", SQUARE, "none", "ok", "picture", "count\nlast", "count\ncount", "keeping", "table", "help",
)

# Texts behind `puzzle` that are of another form, and such that write no puzzle.
NO_FORM = ("", "\n" + SQUARE, SQUARE + "\n", "count", " " + SQUARE, "floor", "floor .\npiece a 00 1 still A",
           "floor .\npiece a 0 100 still A", "puzzle\n" + SQUARE, "floor .\napart A B\npiece a 0 1 still A")
NO_PUZZLE = ("floor .", "floor ?\npiece a 0 1 still A", "floor .\npiece A 0 1 still A", "floor .\npiece a 2 1 still A",
             "floor .\npiece a 0 65 still A", "floor .\npiece a 0 1 spin A", "floor .\npiece a 0 1 still A.A",
             "floor .\npiece a 0 1 still A\napart B A", "floor ........./.........\npiece a 0 1 still A")

ASKED = ("count", "lay 0", "lay 1", "lay " + "9" * 60, "last", "classes", "cases", "sums 2", "sums 0", "sums 99")


class PictureTest(unittest.TestCase):
    def check(self, floor, kinds, laying, *asked):
        told = picture(puzzle_of(floor, kinds), laying)
        self.assertIsInstance(told, tuple)
        self.assertEqual(told, asked, (floor, laying))

    def test_by_hand(self):
        self.check("../..", TWOS, [at("AA", 0, 0), at("AA", 1, 0)], "aa", "bb")
        self.check("../..", TWOS, [at("A/A", 0, 0), at("A/A", 0, 1)], "ab", "ab")
        self.check(".", ONE, [at("A", 0, 0)], "a")

    def test_closed_and_left(self):
        self.check("#,.", ONE, [at("A", 0, 2)], "#-a")
        self.check("#a/,#", ONE, [], "#-", "-#")
        self.check("#", ONE, [], "#")
        self.check("##/##", ONE, [], "##", "##")
        self.check("A,/,b", ONE, [at("A", 0, 0)], "a-", "--")

    def test_by_the_sorted_laying(self):
        one, two, three = at("AA", 0, 0), at("A/A", 0, 2), at("AA", 1, 0)
        for laying in ([one, two, three], [three, two, one], [two, three, one], [three, one, two]):
            self.check(".../...", TWOS, laying, "aab", "ccb")

    def test_the_place_counts_not_the_kind_or_the_sign(self):
        kinds = kinds_of((0, None, "still", "B"), (0, None, "still", "A"))
        self.check("...", kinds, [at("B", 0, 0), at("A", 0, 1, 1), at("B", 0, 2)], "abc")
        self.check(",,,", kinds, [at("B", 0, 1), at("A", 0, 2, 1)], "-ab")

    def test_all_signs(self):
        laying = [at("A", row, column) for row in range(8) for column in range(8)]
        asked = [SIGNS[row * 8:row * 8 + 8] for row in range(8)]
        self.check("/".join(["........"] * 8), ONE, laying, *asked)
        self.check("/".join(["........"] * 8), ONE, laying[::-1], *asked)
        self.check("........", ONE, laying[:8], "abcdefgh")

    def test_beyond_the_bounds(self):
        told = picture(puzzle_of("." * 66, ONE), [at("A", 0, column) for column in range(66)])
        self.assertEqual([row[:64] for row in told], [SIGNS])
        self.assertEqual([len(row) for row in told], [66])

    def test_small_puzzles(self):
        for puzzle in SMALL:
            for laying in layings(puzzle, 0, 20):
                told = picture(puzzle, laying)
                self.assertEqual(len(told), len(puzzle[0]))
                for row, signs in enumerate(puzzle[0]):
                    self.assertEqual(len(told[row]), len(signs))
                    for column, sign in enumerate(signs):
                        over = [SIGNS[k] for k, (spots, number) in enumerate(sorted(laying))
                                if (row, column) in [spot[:2] for spot in spots]]
                        self.assertEqual([told[row][column]], over or ["#" if sign == "#" else "-"], (puzzle, laying))

    def test_handed_in_stays(self):
        laying = [at("AA", 1, 0), at("AA", 0, 0)]
        puzzle = puzzle_of("../..", TWOS)
        told = picture(puzzle, laying)
        self.assertEqual(laying, [at("AA", 1, 0), at("AA", 0, 0)])
        laying.clear()
        self.assertEqual(told, ("aa", "bb"))


class DeskCase(unittest.TestCase):
    def desk(self, text):
        desk = Desk()
        self.assertEqual(desk.tell("puzzle\n" + text), "ok")
        return desk

    def check(self, desk, text, asked):
        told = desk.tell(text)
        self.assertIsInstance(told, str)
        self.assertEqual(told, asked, text)

    def refused(self, desk, text, error):
        with self.assertRaises(error, msg=repr(text)):
            desk.tell(text)


class AnswersTest(DeskCase):
    def test_puzzle(self):
        self.check(Desk(), "puzzle\n" + SQUARE, "ok")
        self.check(Desk(), "puzzle\n" + NONE, "ok")
        self.check(Desk(), "puzzle\nfloor #\npiece a 0 any still A\npiece b 0 1 flip AB/A.\napart A A\napart A B", "ok")

    def test_count(self):
        self.check(self.desk(SQUARE), "count", "8")
        self.check(self.desk(NONE), "count", "0")
        self.check(self.desk("floor " + "/".join(["........"] * 8) + "\npiece a 0 any turn AA"), "count", "12988816")
        self.check(self.desk("floor " + "/".join([",,,,,,,,"] * 8) + "\npiece a 0 any still A"), "count", str(2 ** 64))

    def test_lay(self):
        desk = self.desk(SQUARE)
        for number, asked in enumerate(("aa/bb", "aa/bb", "ab/ab", "ab/ab", "aa/bb", "aa/bb", "ab/ab", "ab/ab")):
            self.check(desk, "lay " + str(number), asked)
        desk = self.desk("floor ,,\npiece a 0 any still A")
        for number, asked in enumerate(("--", "-a", "a-", "ab")):
            self.check(desk, "lay " + str(number), asked)

    def test_lay_of_no_number(self):
        for number in ("8", "9", "10", "9" * 60, "1" + "0" * 59):
            self.refused(self.desk(SQUARE), "lay " + number, NoNumber)
        for number in ("0", "1", "9" * 60):
            self.refused(self.desk(NONE), "lay " + number, NoNumber)

    def test_great_numbers(self):
        desk = self.desk("floor " + "/".join([",,,,,,,,"] * 8) + "\npiece a 0 any still A")
        self.check(desk, "lay " + str(2 ** 63), "/".join(["a-------"] + ["--------"] * 7))
        self.check(desk, "lay " + str(2 ** 64 - 1), "/".join([SIGNS[k:k + 8] for k in range(0, 64, 8)]))
        self.check(desk, "last", "/".join([SIGNS[k:k + 8] for k in range(0, 64, 8)]))
        self.refused(desk, "lay " + str(2 ** 64), NoNumber)

    def test_last(self):
        self.check(self.desk(SQUARE), "last", "ab/ab")
        self.check(self.desk(NONE), "last", "none")
        self.check(self.desk("floor ,,#\npiece a 0 any still A"), "last", "ab#")
        self.check(self.desk("floor b,#\npiece a 0 0 still A"), "last", "--#")

    def test_classes(self):
        self.check(self.desk(SQUARE), "classes", "2")
        self.check(self.desk(NONE), "classes", "0")
        self.check(self.desk("floor ,,/,,\npiece a 0 any still A"), "classes", "6")
        self.check(self.desk("floor ab/,.\npiece a 0 any still A"), "classes", "4")
        self.check(self.desk("floor " + "/".join(["........"] * 8) + "\npiece a 0 any turn AA"), "classes", "1629189")

    def test_cases(self):
        self.check(self.desk(SQUARE), "cases", "some")
        self.check(self.desk(NONE), "cases", "none")
        self.check(self.desk("floor #\npiece a 0 any still A"), "cases", "some")
        whole = "floor #......./" + "......../" * 6 + ".......#"
        self.check(self.desk(whole + "\npiece a 0 any turn AA"), "cases", "none")

    def test_sums(self):
        self.check(self.desk(NONE), "sums 2", "weights")
        self.check(self.desk(SQUARE), "sums 2", "mixture")
        desk = self.desk("floor ../..\npiece a 0 any turn AA/A.")
        for p, asked in ((2, "mixture"), (3, "weights"), (5, "mixture"), (7, "mixture"), (97, "mixture")):
            self.check(desk, "sums " + str(p), asked)

    def test_sums_of_no_prime(self):
        for text in (SQUARE, NONE):
            desk = self.desk(text)
            for p in (0, 1, 4, 6, 8, 9, 10, 49, 77, 91, 95, 96, 98, 99):
                self.refused(desk, "sums " + str(p), NoNumber)

    def test_small_puzzles(self):
        desk = Desk()
        for puzzle in SMALL + BARRED:
            self.check(desk, "puzzle\n" + shown(puzzle), "ok")
            found = layings(puzzle, 0, 10 ** 59)
            self.check(desk, "count", str(count(puzzle)))
            for number, laying in enumerate(found[:10]):
                self.check(desk, "lay " + str(number), "/".join(picture(puzzle, laying)))
            self.refused(desk, "lay " + str(len(found)), NoNumber)
            self.check(desk, "last", "/".join(picture(puzzle, found[-1])) if found else "none")
            self.check(desk, "classes", str(len(classes(puzzle))))
            self.check(desk, "cases", cases(puzzle)[0])
            for p in (2, 3, 5, 97):
                self.check(desk, "sums " + str(p), sums(puzzle, p)[0])


class RefusalsTest(DeskCase):
    def test_what_is_nothing_or_no_text(self):
        things = (None, 0, 1, True, 2.0, b"count", [], ["count"], ("lay", "0"), {}, {"count"}, object(), str, Unequal())
        for desk in (Desk(), self.desk(SQUARE), self.desk(NONE)):
            for text in NOTHING + things:
                self.refused(desk, text, NoText)

    def test_no_puzzle_kept(self):
        for text in ASKED:
            self.refused(Desk(), text, NoPuzzle)

    def test_texts_of_another_form(self):
        for desk in (Desk(), self.desk(SQUARE)):
            for text in NO_FORM:
                self.refused(desk, "puzzle\n" + text, NoText)

    def test_texts_that_write_no_puzzle(self):
        for desk in (Desk(), self.desk(SQUARE)):
            for text in NO_PUZZLE:
                self.refused(desk, "puzzle\n" + text, NoPuzzle)

    def test_the_former_puzzle_stays(self):
        desk = self.desk(SQUARE)
        for text in NO_FORM + NO_PUZZLE:
            with self.assertRaises((NoText, NoPuzzle)):
                desk.tell("puzzle\n" + text)
            self.check(desk, "count", "8")
            self.check(desk, "last", "ab/ab")
        desk = Desk()
        for text in NO_FORM + NO_PUZZLE:
            with self.assertRaises((NoText, NoPuzzle)):
                desk.tell("puzzle\n" + text)
            self.refused(desk, "count", NoPuzzle)

    def test_answers_behind_a_refusal(self):
        desk = self.desk(SQUARE)
        for text in NOTHING + ("lay 8", "sums 4", None):
            with self.assertRaises((NoText, NoNumber)):
                desk.tell(text)
            self.check(desk, "lay 0", "aa/bb")
        desk = Desk()
        for text in NOTHING + ASKED:
            with self.assertRaises((NoText, NoPuzzle)):
                desk.tell(text)
        self.check(desk, "puzzle\n" + SQUARE, "ok")
        self.check(desk, "count", "8")


class KeptTest(DeskCase):
    def test_a_new_puzzle_takes_the_place(self):
        desk = self.desk(SQUARE)
        self.check(desk, "count", "8")
        self.check(desk, "puzzle\n" + NONE, "ok")
        self.check(desk, "count", "0")
        self.check(desk, "last", "none")
        self.check(desk, "puzzle\n" + SQUARE, "ok")
        self.check(desk, "count", "8")

    def test_two_desks_side_by_side(self):
        one, other = Desk(), Desk()
        self.check(one, "puzzle\n" + SQUARE, "ok")
        self.refused(other, "count", NoPuzzle)
        self.check(other, "puzzle\n" + NONE, "ok")
        self.check(one, "count", "8")
        self.check(other, "count", "0")
        self.refused(other, "puzzle\nfloor", NoText)
        self.check(one, "puzzle\nfloor ,\npiece a 0 1 still A", "ok")
        self.check(other, "cases", "none")
        self.check(one, "count", "2")
        self.refused(Desk(), "last", NoPuzzle)

    def test_asked_again(self):
        desk = self.desk(SQUARE)
        for text in ("count", "lay 3", "last", "classes", "cases", "sums 3"):
            self.assertEqual(desk.tell(text), desk.tell(text))


if __name__ == "__main__":
    unittest.main()
