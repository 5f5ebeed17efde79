"""Promises 2, 5 and 12: puzzles read from texts and shown as texts."""

import unittest

from coverpieces.errors import NoPuzzle, NoText
from coverpieces.puzzles import is_puzzle
from coverpieces.texts import read, shown
from tests.helpers import Unequal, form_of

GOOD = "floor ..#/.,A/b..\npiece ell 1 3 flip AB/.C\npiece one 0 any still A\napart A A\napart A C"

PUZZLE = (
    ("..#", ".,A", "b.."),
    (("ell", 1, 3, "flip", form_of("AB/.C")), ("one", 0, None, "still", form_of("A"))),
    (("A", "A"), ("A", "C")),
)

LINES = GOOD.split("\n")

# Each with the line of GOOD in whose place it stands.
FORM_FAULTS = (
    (0, ""), (0, " "), (0, "floor"), (0, "floor "), (0, "floor  ."), (0, " floor ."), (0, "floor . "), (0, "floor . ."),
    (0, "Floor ."), (0, "floors ."), (0, "ground ."), (0, "."), (0, "floor\t."), (0, "floor .\n"), (0, "\nfloor ."),
    (0, "floor .\nfloor ."), (0, "piece one 0 any still A"), (0, "apart A A"), (0, "\ufefffloor ."), (0, "flo or ."),
    (0, "floor .\n\n"), (0, "floor .\n "),
    (1, ""), (1, " "), (1, "piece"), (1, "piece "), (1, "piece ell"), (1, "piece ell 1 3 flip"),
    (1, "piece ell 1 3 flip "), (1, "piece ell 1 3 flip AB/.C "), (1, " piece ell 1 3 flip AB/.C"),
    (1, "piece  ell 1 3 flip AB/.C"), (1, "piece ell 1  3 flip AB/.C"), (1, "piece ell 1 3 flip  AB/.C"),
    (1, "piece ell 1 3 flip AB/.C more"), (1, "piece ell 1 3 flip AB .C"), (1, "pieces ell 1 3 flip AB/.C"),
    (1, "Piece ell 1 3 flip AB/.C"), (1, "kind ell 1 3 flip AB/.C"), (1, "piece ell 1 3 AB/.C"),
    (1, "piece\tell 1 3 flip AB/.C"), (1, "floor ."), (1, "# remark"), (1, "apart A B"),
    (1, "piece ell 1 3 flip AB/.C\n"), (1, "\npiece ell 1 3 flip AB/.C"),
    (3, ""), (3, "apart"), (3, "apart "), (3, "apart A"), (3, "apart A "), (3, "apart  A A"), (3, "apart A  A"),
    (3, " apart A A"), (3, "apart A A "), (3, "apart A A A"), (3, "Apart A A"), (3, "near A A"), (3, "floor ."),
    (3, "apart\tA A"), (3, "apart A A\n"), (4, "piece two 0 any still A"), (4, "floor ."), (4, "apart A C\n"),
    (4, "apart A C\n\n"), (4, "apart A C\n "), (4, "apart A C "), (4, "apart A C\npiece two 0 any still A"),
)

NO_NUMBERS = (
    "00", "01", "09", "000", "001", "100", "640", "999", "1000", "-1", "+1", "-0", "1.", "1.0", "1_", "_1", "x", "one",
    "1x", "x1", "Any", "ANY", "anything", "an", "none", "None", "0x", "\u0663", "\u00b2", "1\u0663", "\uff11", "?", ".",
    "\t", "1\t",
)

NO_PICTURES = (
    "a", "aB", "A-", "A#", "A,", "A/", "/A", "/", "//", "A//A", "AB/C", "A/BC", "AB/CD/E", "A/B/", "A1", "0", "?",
    "A\tB", "A\\B", "A|B", "\u00c4", "A\u0391", "\uff21", "A\r", "./..", ".../..",
)

PUZZLE_FAULTS = (
    (0, "floor ?"), (0, "floor ../."), (0, "floor /"), (0, "floor ../"), (0, "floor /.."), (0, "floor ..//.."),
    (0, "floor ........."), (0, "floor ./././././././././."), (0, "floor ..-"), (0, "floor \u00e4"), (0, "floor .\t."),
    (0, "floor 0"), (0, "floor ..\\.."), (0, "floor .\r"), (0, "floor floor!"),
    (1, "piece Ell 1 3 flip AB/.C"), (1, "piece elleleles 1 3 flip AB/.C"), (1, "piece el1 1 3 flip AB/.C"),
    (1, "piece 1 1 3 flip AB/.C"), (1, "piece el-l 1 3 flip AB/.C"), (1, "piece \u00e4 1 3 flip AB/.C"),
    (1, "piece one 1 3 flip AB/.C"), (1, "piece ell\t 1 3 flip AB/.C"),
    (1, "piece ell 65 any flip AB/.C"), (1, "piece ell 99 any flip AB/.C"), (1, "piece ell 65 65 flip AB/.C"),
    (1, "piece ell 1 65 flip AB/.C"), (1, "piece ell 1 99 flip AB/.C"), (1, "piece ell 1 0 flip AB/.C"),
    (1, "piece ell 10 9 flip AB/.C"), (1, "piece ell 64 63 flip AB/.C"),
    (1, "piece ell 1 3 Flip AB/.C"), (1, "piece ell 1 3 spin AB/.C"), (1, "piece ell 1 3 any AB/.C"),
    (1, "piece ell 1 3 0 AB/.C"), (1, "piece ell 1 3 turn, AB/.C"),
    (1, "piece ell 1 3 flip ."), (1, "piece ell 1 3 flip .../..."), (1, "piece ell 1 3 flip A.A"),
    (1, "piece ell 1 3 flip A./.A"), (1, "piece ell 1 3 flip A/./A"), (1, "piece ell 1 3 flip ABCDEFG"),
    (1, "piece ell 1 3 flip ABCD/ABC."),
    (3, "apart a A"), (3, "apart A b"), (3, "apart AA A"), (3, "apart A AA"), (3, "apart 1 2"), (3, "apart . ."),
    (3, "apart B A"), (3, "apart A \u00c4"), (3, "apart A,B C"), (3, "apart A A\napart A A"), (3, "apart A C"),
    (3, "apart A D"), (3, "apart B B"), (4, "apart A A"), (4, "apart C A"),
)


def spoilt(faults):
    """GOOD with other lines in the places told."""
    lines = list(LINES)
    for k, line in faults:
        lines[k] = line
    return "\n".join(lines)


def piece_faults():
    """Lines of a piece whose least, most or picture is not of the told form."""
    faults = [(1, f"piece ell {word} 3 flip AB/.C") for word in NO_NUMBERS + ("any",)]
    faults += [(1, f"piece ell 1 {word} flip AB/.C") for word in NO_NUMBERS]
    return faults + [(1, f"piece ell 1 3 flip {word}") for word in NO_PICTURES]


class ReadTest(unittest.TestCase):
    def refuse(self, text, refusal):
        with self.assertRaises(refusal, msg=repr(text)):
            read(text)

    def check_form(self, picture, asked):
        told = read(f"floor .\npiece a 0 any still {picture}")
        self.assertEqual(told, ((".",), (("a", 0, None, "still", asked),), ()), picture)

    def test_good_text(self):
        self.assertEqual(read(GOOD), PUZZLE)

    def test_told_is_a_puzzle(self):
        told = read(GOOD)
        self.assertIs(is_puzzle(told), True)
        for number in (told[1][0][1], told[1][0][2], told[1][1][1]):
            self.assertIs(type(number), int)
        self.assertIs(told[1][1][2], None)

    def test_without_pairs(self):
        self.assertEqual(read("\n".join(LINES[:3])), PUZZLE[:2] + ((),))

    def test_one_of_each(self):
        self.assertEqual(
            read("floor #\npiece z 64 64 turn Z\napart Z Z"),
            (("#",), (("z", 64, 64, "turn", ((0, 0, "Z"),)),), (("Z", "Z"),)),
        )

    def test_six_pieces(self):
        lines = [f"piece {name} 0 any turn AA" for name in "fedcba"]
        told = read("\n".join(["floor ...", *lines]))
        self.assertEqual([kind[0] for kind in told[1]], list("fedcba"))

    def test_words_as_names(self):
        for name in ("floor", "piece", "apart", "any", "still", "a", "abcdefgh"):
            self.assertEqual(read(f"floor .\npiece {name} 0 any turn A")[1][0][0], name)

    def test_floors(self):
        self.assertEqual(read("floor #.,AZaz\npiece a 0 any turn A")[0], ("#.,AZaz",))
        self.assertEqual(read("floor floor\npiece a 0 any turn A")[0], ("floor",))
        self.assertEqual(read("floor ./,/#/A/z/././.\npiece a 0 any turn A")[0], tuple(".,#Az..."))
        self.assertEqual(read("floor " + "/".join(["........"] * 8) + "\npiece a 0 any turn A")[0], ("........",) * 8)

    def test_bounds(self):
        for least, most in ((0, 0), (0, 1), (1, 1), (9, 10), (10, 10), (0, 64), (63, 64), (64, 64), (20, 30)):
            self.assertEqual(read(f"floor .\npiece a {least} {most} turn A")[1][0][1:3], (least, most))
        for least in range(65):
            self.assertEqual(read(f"floor .\npiece a {least} any turn A")[1][0][1:3], (least, None))

    def test_modes(self):
        for mode in ("still", "turn", "flip"):
            self.assertEqual(read(f"floor .\npiece a 0 any {mode} A")[1][0][3], mode)

    def test_pictures(self):
        for picture in ("A", "Z", "AB", "A/B", "AB/.C", "A.A/AAA", "ABCDEF", "A/B/C/D/E/F", "..A/..B/CDE"):
            self.check_form(picture, form_of(picture))

    def test_pictures_with_empty_sides(self):
        self.check_form("A.", form_of("A"))
        self.check_form(".A", form_of("A"))
        self.check_form("./A", form_of("A"))
        self.check_form("A/.", form_of("A"))
        self.check_form(".../.Q./...", form_of("Q"))
        self.check_form("..../.AB./..C./....", form_of("AB/.C"))
        self.check_form("...../...../...AB/....C", form_of("AB/.C"))
        self.check_form("..B/.AC", form_of(".B/AC"))
        self.check_form("..........A/.........BC", form_of(".A/BC"))
        self.check_form("/".join(["." * 20] * 20 + [".A" + "." * 18]), form_of("A"))

    def test_pairs(self):
        text = "floor .\npiece a 0 any turn A\napart A A\napart A Z\napart B C\napart Z Z"
        self.assertEqual(read(text)[2], (("A", "A"), ("A", "Z"), ("B", "C"), ("Z", "Z")))

    def test_pairs_of_signs_that_no_piece_has(self):
        self.assertEqual(read("floor .\npiece a 0 any turn A\napart X Y")[2], (("X", "Y"),))

    def test_other_form(self):
        for fault in FORM_FAULTS:
            self.refuse(spoilt([fault]), NoText)

    def test_numbers_and_pictures_of_other_form(self):
        for fault in piece_faults():
            self.refuse(spoilt([fault]), NoText)

    def test_lines_in_another_order(self):
        for order in ((1, 0, 2, 3, 4), (1, 2, 3, 4, 0), (0, 3, 4, 1, 2), (0, 1, 3, 2, 4), (0, 3, 1, 2, 4),
                      (4, 3, 2, 1, 0), (0, 1, 3, 4, 2)):
            self.refuse("\n".join([LINES[k] for k in order]), NoText)

    def test_lines_without_a_floor(self):
        self.refuse("\n".join(LINES[1:]), NoText)
        self.refuse("\n".join(LINES[3:]), NoText)

    def test_empty_texts(self):
        for text in ("", " ", "\n", "\n\n", "\t", " \n "):
            self.refuse(text, NoText)

    def test_line_ends_at_the_sides(self):
        self.refuse(GOOD + "\n", NoText)
        self.refuse("\n" + GOOD, NoText)
        self.refuse(GOOD.replace("\n", "\n\n"), NoText)

    def test_other_line_ends(self):
        # Only a line feed ends a line, so here stands one line alone.
        for end in ("\r", "\v", "\f", "\u2028", "\x85", ";"):
            self.refuse(GOOD.replace("\n", end), NoText)
        self.refuse(GOOD.replace("\n", "\r\n"), NoText)

    def test_other_blanks(self):
        for blank in ("\t", "\u00a0", "\u2003", "  "):
            self.refuse(GOOD.replace(" ", blank), NoText)

    def test_no_texts(self):
        for thing in (None, True, False, 0, 1, 1.5, [], (), {}, set(), GOOD.encode(), bytearray(b"floor ."), [GOOD],
                      (GOOD,), LINES, PUZZLE, object(), Unequal(), read, ValueError):
            self.refuse(thing, NoText)

    def test_no_puzzle(self):
        for fault in PUZZLE_FAULTS:
            self.refuse(spoilt([fault]), NoPuzzle)

    def test_no_piece(self):
        self.refuse("floor .", NoPuzzle)
        self.refuse("floor .\napart A A", NoPuzzle)
        self.refuse("floor ?", NoPuzzle)

    def test_seven_pieces(self):
        lines = [f"piece {name} 0 any turn AA" for name in "abcdefg"]
        self.refuse("\n".join(["floor ...", *lines]), NoPuzzle)
        self.refuse("\n".join(["floor ...", *lines, "apart A A"]), NoPuzzle)

    def test_two_names_alike(self):
        self.refuse(GOOD.replace("piece one", "piece ell"), NoPuzzle)
        self.refuse("floor .\npiece a 0 any turn A\npiece b 0 any turn A\npiece a 0 any turn A", NoPuzzle)

    def test_faults_of_both_kinds(self):
        for form_fault in list(FORM_FAULTS) + piece_faults():
            for puzzle_fault in PUZZLE_FAULTS:
                if form_fault[0] != puzzle_fault[0]:
                    self.refuse(spoilt([form_fault, puzzle_fault]), NoText)

    def test_faults_of_both_kinds_in_one_line(self):
        for line in ("piece ELL 01 3 flip A", "piece ell 65 100 flip A", "piece ell 1 3 spin AB/C",
                     "piece ELL 1 3 flip a", "piece ell 1 03 spin A", "piece ell 9 8 flip A//A",
                     "piece ELL 1 3 flip A more"):
            self.refuse(spoilt([(1, line)]), NoText)
        self.refuse("floor ? ?", NoText)
        self.refuse("floor ?\n", NoText)
        self.refuse(spoilt([(3, "apart a b c")]), NoText)

    def test_seven_pieces_and_another_form(self):
        lines = [f"piece {name} 0 any turn AA" for name in "abcdefg"]
        self.refuse("\n".join(["floor ...", *lines, ""]), NoText)
        self.refuse("\n".join(["floor ...", *lines[:-1], "piece g 0 any turn aa"]), NoText)
        self.refuse("floor .\n", NoText)
        self.refuse("floor .\napart A", NoText)


class ShownTest(unittest.TestCase):
    def test_text(self):
        self.assertEqual(shown(PUZZLE), GOOD)

    def test_without_pairs(self):
        self.assertEqual(shown(PUZZLE[:2] + ((),)), "\n".join(LINES[:3]))

    def test_bounds(self):
        form = form_of("A")
        for least, most, words in ((0, 0, "0 0"), (0, None, "0 any"), (9, 10, "9 10"), (64, 64, "64 64")):
            puzzle = ((".",), (("a", least, most, "turn", form),), ())
            self.assertEqual(shown(puzzle), f"floor .\npiece a {words} turn A")

    def test_pictures_as_small_as_can_be(self):
        for picture in ("A", "AB", "A/B", "AB/.C", ".A/BC", "A.A/AAA", ".A./ABA/.C.", "ABCDEF", "A/B/C/D/E/F",
                        "..A/..B/CDE", "A../B../CDE"):
            text = f"floor .\npiece a 0 any still {picture}"
            self.assertEqual(shown(((".",), (("a", 0, None, "still", form_of(picture)),), ())), text)

    def test_pictures_with_empty_sides_become_small(self):
        text = "floor .\npiece a 0 any still ..../..A./.BC./....\npiece b 1 2 turn ./Q"
        self.assertEqual(shown(read(text)), "floor .\npiece a 0 any still .A/BC\npiece b 1 2 turn Q")

    def test_read_again(self):
        for puzzle in (
            PUZZLE,
            (("#",), (("z", 64, 64, "turn", form_of("Z")),), (("Z", "Z"),)),
            (("........",) * 8, tuple([(name, 0, None, "flip", form_of("A.B/CDE")) for name in "fbacde"]), ()),
            (("a", "Z", ","), (("abcdefgh", 0, 64, "still", form_of("..A/..B/CDE")),), (("A", "B"), ("C", "D"))),
        ):
            self.assertEqual(read(shown(puzzle)), puzzle)

    def test_beyond_the_bounds(self):
        kinds = tuple([(name, 70, 100, "flip", form_of("ABCDEFGH")) for name in "abcdefg"])
        lines = [f"piece {name} 70 100 flip ABCDEFGH" for name in "abcdefg"]
        self.assertEqual(shown((("." * 9,), kinds, ())), "\n".join(["floor .........", *lines]))
        self.assertEqual(shown(((".",), (("a", 0, 1, "still", ()),), ())), "floor .\npiece a 0 1 still .")


if __name__ == "__main__":
    unittest.main()
