"""Promises 2, 9 and 10: kinds and puzzles."""

import unittest

from coverpieces.puzzles import is_kind, is_puzzle
from tests.helpers import Unequal, form_of

FORM = form_of("AB/.C")
KIND = ("ell", 1, 3, "flip", FORM)
OTHER = ("one", 0, None, "still", form_of("A"))
FLOOR = ("..#", ".,A", "b..")
PAIRS = (("A", "A"), ("A", "C"), ("B", "C"))
PUZZLE = (FLOOR, (KIND, OTHER), PAIRS)

THINGS = (
    None, True, False, 0, 1, -1, 10 ** 49, 1.5, "", "A", "a", "still", b"a", [], (), {}, set(), [None], (None,),
    range(3), object(), Unequal(), is_kind, ValueError, [FLOOR], (FLOOR,), {"a": 1},
)


def without(whole, k, part):
    """A tuple with another part in the place k."""
    return whole[:k] + (part,) + whole[k + 1:]


class IsKindTest(unittest.TestCase):
    def accept(self, found):
        self.assertIs(is_kind(found), True, repr(found))

    def refuse(self, found):
        self.assertIs(is_kind(found), False, repr(found))

    def spoil(self, k, parts):
        for part in parts:
            self.refuse(without(KIND, k, part))

    def test_good_kinds(self):
        self.accept(KIND)
        self.accept(OTHER)
        self.accept(("a", 0, 0, "turn", form_of("Z")))
        self.accept(("zzzzzzzz", 64, 64, "still", form_of("ABCDEF")))

    def test_names(self):
        for letter in "abcdefghijklmnopqrstuvwxyz":
            self.accept(without(KIND, 0, letter))
        for many in range(1, 9):
            self.accept(without(KIND, 0, "q" * many))
        self.accept(without(KIND, 0, "any"))
        self.accept(without(KIND, 0, "piece"))

    def test_names_that_are_none(self):
        self.spoil(0, ("", "q" * 9, "q" * 4000, "A", "Ab", "aB", "a1", "1", "a b", " a", "a ", "a\n", "a_", "a-b", "`",
                       "{", "\u00e4", "a\u00df", "\u03b1", "\uff41", None, True, 0, 1, 97, b"a", ["a"], ("a",),
                       {"a": "a"}, Unequal()))

    def test_least(self):
        for least in range(65):
            self.accept(("a", least, None, "turn", FORM))
            self.accept(("a", least, 64, "turn", FORM))
            self.accept(("a", least, least, "turn", FORM))

    def test_least_that_is_none(self):
        for most in (None, 64):
            for least in (-1, -64, 65, 66, 10 ** 49, -10 ** 49, True, False, None, "0", "1", "", 0.0, 1.0, 1j, [1],
                          (1,), {}, Unequal()):
                self.refuse(("a", least, most, "turn", FORM))

    def test_most(self):
        for most in range(65):
            self.accept(("a", 0, most, "turn", FORM))
            self.assertIs(is_kind(("a", 32, most, "turn", FORM)), most >= 32, most)
        self.accept(("a", 0, None, "turn", FORM))
        self.accept(("a", 64, None, "turn", FORM))

    def test_most_that_is_none(self):
        for least in (0, 1):
            for most in (-1, 65, 66, 10 ** 49, -10 ** 49, True, False, "1", "any", "", 1.0, 2.0, 1j, [1], (1,), {},
                         Unequal()):
                self.refuse(("a", least, most, "turn", FORM))
        self.refuse(("a", 1, 0, "turn", FORM))
        self.refuse(("a", 64, 63, "turn", FORM))

    def test_modes(self):
        for mode in ("still", "turn", "flip"):
            self.accept(without(KIND, 3, mode))

    def test_modes_that_are_none(self):
        self.spoil(3, ("", "Still", "STILL", "turns", "tur", "flip ", " flip", "flip\n", "mirror", "any", None, True, 0,
                       1, 4, 8, b"turn", ["turn"], ("turn",), {"turn": 4}, {}, [], Unequal()))

    def test_forms(self):
        for picture in ("A", "Z", "AB", "A/B", "AB/.C", "A.A/AAA", "ABCDEF", "A/B/C/D/E/F"):
            self.accept(without(KIND, 4, form_of(picture)))

    def test_forms_that_are_none(self):
        self.spoil(4, (
            (), form_of("ABCDEFG"), form_of("A.B"), form_of("A./.B"), form_of(".A"), form_of("./A"), list(FORM),
            FORM[::-1], FORM + FORM[:1], ((0, 0, "a"),), ((0, 0, "AB"),), ((0, 0),), ([0, 0, "A"],), ((True, 0, "A"),),
            ((False, 0, "A"),), ((0, False, "A"),), ((0, 0.0, "A"),), ((-1, 0, "A"), (0, 0, "A")), (0, 0, "A"), "AB/.C",
            None, True, 0, "A", {}, [], Unequal(), (Unequal(),),
        ))

    def test_five_parts(self):
        for many in range(5):
            self.refuse(KIND[:many])
        self.refuse(KIND + (None,))
        self.refuse(KIND + KIND)
        self.refuse(KIND[1:] + KIND[:1])

    def test_kind_is_a_tuple(self):
        self.refuse(list(KIND))
        self.refuse({part: True for part in KIND})
        self.refuse((KIND,))

    def test_other_things(self):
        for thing in THINGS:
            self.refuse(thing)

    def test_handed_in_stays(self):
        kind = ["a", 1, 0, "turn", [[0, 0, "A"]]]
        is_kind(kind)
        is_kind(tuple(kind))
        self.assertEqual(kind, ["a", 1, 0, "turn", [[0, 0, "A"]]])


class IsPuzzleTest(unittest.TestCase):
    def accept(self, found):
        self.assertIs(is_puzzle(found), True, repr(found))

    def refuse(self, found):
        self.assertIs(is_puzzle(found), False, repr(found))

    def spoil(self, k, parts):
        for part in parts:
            self.refuse(without(PUZZLE, k, part))

    def named(self, names):
        return tuple([without(KIND, 0, name) for name in names])

    def test_good_puzzles(self):
        self.accept(PUZZLE)
        self.accept(((".",), (OTHER,), ()))
        self.accept((("########",) * 8, (KIND,), (("Z", "Z"),)))

    def test_floors_that_are_none(self):
        self.spoil(0, ((), ("..", "."), ("",), ("." * 9,), (".",) * 9, ("?",), ("-",), list(FLOOR), "..", ".",
                       ([".", "."],), (".", None), (True,), None, 0, {}, Unequal(), (Unequal(),)))

    def test_one_to_six_kinds(self):
        for many in range(1, 7):
            self.accept(without(PUZZLE, 1, self.named("abcdef"[:many])))
        self.refuse(without(PUZZLE, 1, ()))
        self.refuse(without(PUZZLE, 1, self.named("abcdefg")))
        self.refuse(without(PUZZLE, 1, self.named("abcdefghijklmnop")))

    def test_unlike_names(self):
        self.accept(without(PUZZLE, 1, self.named(("a", "aa", "b", "ab"))))
        self.refuse(without(PUZZLE, 1, (KIND, KIND)))
        self.refuse(without(PUZZLE, 1, self.named("aa")))
        self.refuse(without(PUZZLE, 1, self.named("aba")))
        self.refuse(without(PUZZLE, 1, self.named("abcdea")))
        self.refuse(without(PUZZLE, 1, (KIND, without(OTHER, 0, KIND[0]))))

    def test_names_may_stand_in_any_order(self):
        self.accept(without(PUZZLE, 1, self.named("cab")))

    def test_kinds_that_are_none(self):
        self.spoil(1, ([KIND], [KIND, OTHER], {KIND: True}, KIND, (list(KIND),), (KIND, list(OTHER)), (KIND, None),
                       (None,), (KIND[:4],), ("",), "a", None, True, 1, {}, Unequal(), (Unequal(),), (KIND, Unequal())))
        for k, part in ((0, "A"), (1, -1), (1, True), (2, 0), (2, True), (3, "spin"), (4, form_of("A.A"))):
            self.refuse(without(PUZZLE, 1, (without(KIND, k, part),)))
            self.refuse(without(PUZZLE, 1, (OTHER, without(KIND, k, part))))

    def test_pairs(self):
        letters = "ABCDEFGHIJKLMNOPQRSTUVWXYZ"
        every = tuple([(one, other) for one in letters for other in letters if one <= other])
        self.assertEqual(len(every), 351)
        self.accept(without(PUZZLE, 2, ()))
        self.accept(without(PUZZLE, 2, every))
        for pair in every:
            self.accept(without(PUZZLE, 2, (pair,)))

    def test_first_sign_not_later(self):
        self.spoil(2, ((("B", "A"),), (("Z", "A"),), (("A", "A"), ("C", "B"))))

    def test_pairs_are_sorted(self):
        self.spoil(2, (PAIRS[::-1], (("A", "C"), ("A", "B")), (("B", "B"), ("A", "Z")),
                       (("A", "A"), ("B", "C"), ("A", "C"))))

    def test_pairs_stand_once(self):
        self.spoil(2, ((("A", "A"), ("A", "A")), (("A", "B"), ("A", "C"), ("A", "C")), PAIRS + PAIRS[-1:]))

    def test_pairs_are_tuples_of_two_signs(self):
        for wrong in (["A", "B"], "AB", ("A",), ("A", "B", "C"), (), ("A", "b"), ("a", "B"), ("a", "b"), ("A", "BB"),
                      ("A", ""), ("", "A"), ("A", "["), ("@", "A"), ("A", "\u00c4"), ("A", None), (None, "A"), (0, 1),
                      (True, True), ("A", 1), (1, "A"), {"A": "B"}, None, 0, True, Unequal(), ("A", Unequal()),
                      (Unequal(), "A"), (["A"], ["B"])):
            self.refuse(without(PUZZLE, 2, (wrong,)))
            self.refuse(without(PUZZLE, 2, (("A", "A"), wrong)))
            self.refuse(without(PUZZLE, 2, (wrong, ("Z", "Z"))))

    def test_apart_is_a_tuple(self):
        self.spoil(2, ([], list(PAIRS), {}, {("A", "B"): True}, set(), {("A", "B")}, ("A", "B"), None, False, 0, "",
                       "AB", Unequal()))

    def test_three_parts(self):
        for many in range(3):
            self.refuse(PUZZLE[:many])
        self.refuse(PUZZLE + ((),))
        self.refuse((PUZZLE,))
        self.refuse(PUZZLE[::-1])

    def test_puzzle_is_a_tuple(self):
        self.refuse(list(PUZZLE))
        self.refuse({part: True for part in PUZZLE})

    def test_other_things(self):
        for thing in THINGS:
            self.refuse(thing)

    def test_handed_in_stays(self):
        puzzle = [["."], [["a", 0, 1, "still", [(0, 0, "A")]]], [["A", "A"], ["A", "A"]]]
        for found in (puzzle, tuple(puzzle), (tuple(puzzle[0]), tuple(puzzle[1]), puzzle[2])):
            is_puzzle(found)
        self.assertEqual(puzzle, [["."], [["a", 0, 1, "still", [(0, 0, "A")]]], [["A", "A"], ["A", "A"]]])


if __name__ == "__main__":
    unittest.main()
