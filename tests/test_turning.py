"""Promises 2, 6 and 7: the turnings of a form, and its forms by a mode."""

import unittest

from coverpieces.forms import is_form
from coverpieces.turning import forms_of, then, turned, undoing
from tests.helpers import form_of

UNLIKE = "ABC/D.."

TURNED = (
    "ABC/D..",
    "DA/.B/.C",
    "..D/CBA",
    "C./B./AD",
    "CBA/..D",
    ".C/.B/DA",
    "D../ABC",
    "AD/B./C.",
)

FORMS = (
    "A", "AB", "AA", "A/B", "ABC/D..", "AAA/A..", ".AA/AA.", "AA/AA", "AB/CD", ".A./AAA/.A.",
    "A.A/AAA", "ABCDEF", "A/B/C/D/E/F", "..A/..B/CDE/F..", "AA./.A./.AB",
)


class TurnedTest(unittest.TestCase):
    def test_spot_by_spot(self):
        form = ((0, 0, "A"), (0, 1, "B"), (0, 2, "C"), (1, 0, "D"))
        self.assertEqual(turned(form, 0), form)
        self.assertEqual(turned(form, 1), ((0, 0, "D"), (0, 1, "A"), (1, 1, "B"), (2, 1, "C")))
        self.assertEqual(turned(form, 2), ((0, 2, "D"), (1, 0, "C"), (1, 1, "B"), (1, 2, "A")))
        self.assertEqual(turned(form, 3), ((0, 0, "C"), (1, 0, "B"), (2, 0, "A"), (2, 1, "D")))
        self.assertEqual(turned(form, 4), ((0, 0, "C"), (0, 1, "B"), (0, 2, "A"), (1, 2, "D")))
        self.assertEqual(turned(form, 5), ((0, 1, "C"), (1, 1, "B"), (2, 0, "D"), (2, 1, "A")))
        self.assertEqual(turned(form, 6), ((0, 0, "D"), (1, 0, "A"), (1, 1, "B"), (1, 2, "C")))
        self.assertEqual(turned(form, 7), ((0, 0, "A"), (0, 1, "D"), (1, 0, "B"), (2, 0, "C")))

    def test_by_pictures(self):
        for t, picture in enumerate(TURNED):
            self.assertEqual(turned(form_of(UNLIKE), t), form_of(picture), t)

    def test_all_of_one_sign(self):
        asked = (
            ".A/AA/.A/.A", "..A./AAAA", "A./A./AA/A.", "AAAA/.A..",
            "A./AA/A./A.", "AAAA/..A.", ".A/.A/AA/.A", ".A../AAAA",
        )
        for t, picture in enumerate(asked):
            self.assertEqual(turned(form_of(".A/AA/.A/.A"), t), form_of(picture), t)

    def test_told_is_a_form(self):
        for picture in FORMS:
            for t in range(8):
                self.assertIs(is_form(turned(form_of(picture), t)), True, (picture, t))

    def test_six_in_a_row(self):
        self.assertEqual(turned(form_of("ABCDEF"), 1), form_of("A/B/C/D/E/F"))
        self.assertEqual(turned(form_of("ABCDEF"), 2), form_of("FEDCBA"))
        self.assertEqual(turned(form_of("ABCDEF"), 3), form_of("F/E/D/C/B/A"))
        self.assertEqual(turned(form_of("ABCDEF"), 4), form_of("FEDCBA"))
        self.assertEqual(turned(form_of("ABCDEF"), 5), form_of("F/E/D/C/B/A"))
        self.assertEqual(turned(form_of("ABCDEF"), 6), form_of("ABCDEF"))
        self.assertEqual(turned(form_of("ABCDEF"), 7), form_of("A/B/C/D/E/F"))

    def test_one_spot(self):
        for t in range(8):
            self.assertEqual(turned(((0, 0, "A"),), t), ((0, 0, "A"),))

    def test_no_spots(self):
        for t in range(8):
            self.assertEqual(turned((), t), ())

    def test_more_than_six_spots(self):
        self.assertEqual(turned(form_of("ABCDE/FGHIJ"), 5), form_of("JE/ID/HC/GB/FA"))

    def test_numbers_beyond_7_or_below_0(self):
        for t, alike in ((8, 4), (9, 5), (11, 7), (-1, 3), (-4, 0), (-7, 1)):
            self.assertEqual(turned(form_of(UNLIKE), t), form_of(TURNED[alike]), t)

    def test_form_stays(self):
        form = form_of(UNLIKE)
        for t in range(8):
            turned(form, t)
        self.assertEqual(form, form_of(UNLIKE))


class ThenTest(unittest.TestCase):
    def test_all_pairs(self):
        for picture in FORMS:
            form = form_of(picture)
            for t in range(8):
                for s in range(8):
                    self.assertEqual(turned(turned(form, t), s), turned(form, then(t, s)), (picture, t, s))

    def test_told_numbers(self):
        for t in range(8):
            self.assertEqual(sorted([then(t, s) for s in range(8)]), list(range(8)))
            self.assertEqual(then(t, 0), t)
            self.assertEqual(then(0, t), t)

    def test_order_matters(self):
        self.assertEqual(then(1, 4), 7)
        self.assertEqual(then(4, 1), 5)
        self.assertEqual(then(5, 6), 1)
        self.assertEqual(then(6, 5), 3)
        self.assertEqual(then(3, 3), 2)

    def test_numbers_are_whole_ones(self):
        for t in range(8):
            self.assertIs(type(undoing(t)), int)
            for s in range(8):
                self.assertIs(type(then(t, s)), int)


class UndoingTest(unittest.TestCase):
    def test_written_out(self):
        self.assertEqual([undoing(t) for t in range(8)], [0, 3, 2, 1, 4, 5, 6, 7])

    def test_leads_back(self):
        for picture in FORMS:
            form = form_of(picture)
            for t in range(8):
                self.assertEqual(turned(turned(form, t), undoing(t)), form, (picture, t))
                self.assertEqual(turned(turned(form, undoing(t)), t), form, (picture, t))

    def test_then(self):
        for t in range(8):
            self.assertEqual(then(t, undoing(t)), 0)
            self.assertEqual(then(undoing(t), t), 0)


class FormsOfTest(unittest.TestCase):
    def check(self, picture, mode, pictures):
        told = forms_of(form_of(picture), mode)
        self.assertIsInstance(told, list)
        self.assertEqual(told, [form_of(one) for one in pictures], (picture, mode))

    def test_still(self):
        for picture in FORMS:
            self.check(picture, "still", [picture])

    def test_one_spot(self):
        for mode in ("still", "turn", "flip"):
            self.check("A", mode, ["A"])

    def test_alike_turned_and_mirrored(self):
        for mode in ("still", "turn", "flip"):
            self.check("AA/AA", mode, ["AA/AA"])
            self.check(".A./AAA/.A.", mode, [".A./AAA/.A."])

    def test_two_of_one_sign(self):
        self.check("AA", "turn", ["AA", "A/A"])
        self.check("A/A", "turn", ["AA", "A/A"])
        self.check("AA", "flip", ["AA", "A/A"])

    def test_two_of_unlike_signs(self):
        self.check("BA", "turn", ["AB", "A/B", "BA", "B/A"])
        self.check("BA", "flip", ["AB", "A/B", "BA", "B/A"])

    def test_alike_turned_but_not_mirrored(self):
        self.check(".AA/AA.", "turn", ["A./AA/.A", ".AA/AA."])
        self.check(".AA/AA.", "flip", ["AA./.AA", "A./AA/.A", ".AA/AA.", ".A/AA/A."])

    def test_alike_mirrored_but_not_turned(self):
        asked = ["AAA/.A.", "A./AA/A.", ".A./AAA", ".A/AA/.A"]
        self.check("AAA/.A.", "turn", asked)
        self.check("AAA/.A.", "flip", asked)

    def test_without_likeness(self):
        self.check(UNLIKE, "turn", [TURNED[0], TURNED[3], TURNED[1], TURNED[2]])
        self.check(UNLIKE, "flip", [TURNED[k] for k in (0, 7, 4, 3, 1, 6, 5, 2)])

    def test_signs_take_likeness_away(self):
        self.check("AB/CD", "still", ["AB/CD"])
        self.check("AB/CD", "turn", ["AB/CD", "BD/AC", "CA/DB", "DC/BA"])
        self.check("AB/CD", "flip", [
            "AB/CD", "AC/BD", "BA/DC", "BD/AC", "CA/DB", "CD/AB", "DB/CA", "DC/BA",
        ])

    def test_told_list_is_the_askers_own(self):
        form = form_of(UNLIKE)
        for mode in ("still", "turn", "flip"):
            kept = list(forms_of(form, mode))
            told = forms_of(form, mode)
            told.append("more")
            told[0] = None
            self.assertEqual(forms_of(form, mode), kept)
            self.assertEqual(form, form_of(UNLIKE))


if __name__ == "__main__":
    unittest.main()
