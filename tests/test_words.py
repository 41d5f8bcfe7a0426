"""Point 4: words, and what is a word by its form."""

import unittest

from wordmaking import (
    A, ANY, ANYBACK, B, BACK_A, C, EMPTY, LEAVES, NONE, ONE_PART, TWO_PARTS,
    Chooser, balanced, deepened, numbered_rows, then, words_up_to,
)
from wordways.words import formed, leaves_of, spells_none

NO_NAMES = ("", "A", "aB", "a1", "a b", " a", "a ", "^a", "^", "abcdefghi", "a\n", ".", "_", "a-b")


class FormedTest(unittest.TestCase):
    def test_words_are_formed(self):
        for word in words_up_to(4):
            self.assertIs(formed(word), True, word)

    def test_names_of_one_to_eight_small_letters(self):
        for kind in ("name", "back"):
            for name in ("a", "z", "az", "abcdefgh", "zzzzzzzz", "name", "any"):
                self.assertIs(formed((kind, name)), True, (kind, name))
            for text in NO_NAMES:
                self.assertIs(formed((kind, text)), False, (kind, text))

    def test_every_small_letter_is_one(self):
        for code in range(32, 127):
            told = formed(("name", chr(code)))
            self.assertIs(told, "a" <= chr(code) <= "z", chr(code))

    def test_no_words(self):
        for thing in (
            (), ((),), (A,), (A, B), (A, B, C), ("",), ("a",), ("x", A), ("a", "b"), ("a", "b", "c"),
            ("Any",), ("ANY",), ("any ",), (("any",), "a"), (("then",), A, B), ((("any",),),),
        ):
            self.assertIs(formed(thing), False, thing)

    def test_leaves_with_parts_too_many_or_too_few(self):
        for kind in ("any", "anyback", "empty", "none"):
            for more in (("a",), (A,), ((),), ("",), ("a", "b"), (A, B)):
                self.assertIs(formed((kind,) + more), False)
        for kind in ("name", "back"):
            for more in ((), ("a", "b"), ("a", A), (A,), (ANY,), ((),), (("a",),), ("a", "")):
                self.assertIs(formed((kind,) + more), False)

    def test_parts_too_many_or_too_few(self):
        for kind in ONE_PART:
            for more in ((), (A, B), (A, B, C), (A, ())):
                self.assertIs(formed((kind,) + more), False)
        for kind in TWO_PARTS:
            for more in ((), (A,), (A, B, C), (A, B, ()), (A, B, C, A)):
                self.assertIs(formed((kind,) + more), False)

    def test_parts_that_are_no_words(self):
        for bad in ("a", "any", "", (), ("a",), ("name", "A"), ("name",), ("any", "a"), (("any",),)):
            for kind in ONE_PART:
                self.assertIs(formed((kind, bad)), False)
                self.assertIs(formed(("or", A, (kind, bad))), False)
            for kind in TWO_PARTS:
                self.assertIs(formed((kind, A, bad)), False)
                self.assertIs(formed((kind, bad, A)), False)
                self.assertIs(formed(("again", (kind, bad, bad))), False)

    def test_sixty_leaves_and_thirty_deep(self):
        leaves = [LEAVES[k % len(LEAVES)] for k in range(60)]
        self.assertIs(formed(balanced(leaves)), True)
        self.assertIs(formed(balanced(leaves[:-1] + [("name", "A")])), False)
        self.assertIs(formed(deepened(A, 29)), True)
        self.assertIs(formed(deepened(("name", "A"), 29)), False)
        self.assertIs(formed(deepened(then(*leaves[:12]), 18, "maybe")), True)
        self.assertIs(formed(deepened(balanced(leaves), 23, "more")), True)

    def test_form_alone_however_great_and_deep(self):
        self.assertIs(formed(deepened(A, 3000)), True)
        self.assertIs(formed(deepened(("any", "a"), 3000)), False)
        self.assertIs(formed(balanced([A] * 300)), True)
        self.assertIs(formed(tuple([A] * 400)), False)
        self.assertIs(formed(("then",) + tuple([A] * 400)), False)

    def test_first_part_may_be_a_deep_tuple(self):
        self.assertIs(formed((deepened(A, 28), A)), False)
        self.assertIs(formed((deepened(A, 28),)), False)


class LeavesTest(unittest.TestCase):
    def test_letter_leaves_from_the_left(self):
        for leaf in (A, BACK_A, ANY, ANYBACK):
            self.assertEqual(leaves_of(leaf), [leaf])
        self.assertEqual(leaves_of(EMPTY), [])
        self.assertEqual(leaves_of(NONE), [])
        word = ("then", ("or", A, ("again", BACK_A)), ("or", ("more", ("then", ANY, EMPTY)), ("maybe", ANYBACK)))
        self.assertEqual(leaves_of(word), [A, BACK_A, ANY, ANYBACK])

    def test_a_leaf_that_stands_twice_is_told_twice(self):
        self.assertEqual(leaves_of(("then", A, ("or", A, B))), [A, A, B])

    def test_leaves_that_stand_in_no_row_are_told(self):
        self.assertEqual(leaves_of(("then", ("then", A, NONE), B)), [A, B])
        self.assertEqual(leaves_of(("or", NONE, ("then", C, NONE))), [C])

    def test_many_leaves(self):
        leaves = [("name", "n" + "abcdefgh"[k // 8] + "abcdefgh"[k % 8]) for k in range(60)]
        self.assertEqual(leaves_of(balanced(leaves)), leaves)
        self.assertEqual(leaves_of(deepened(then(*leaves[:20]), 5)), leaves[:20])

    def test_the_list_is_new_and_the_askers_own(self):
        word = ("or", A, B)
        told = leaves_of(word)
        told.append(C)
        self.assertEqual(leaves_of(word), [A, B])
        self.assertEqual(word, ("or", A, B))


class SpellsNoneTest(unittest.TestCase):
    def test_each_kind(self):
        for leaf in LEAVES:
            self.assertIs(spells_none(leaf), leaf == NONE)
        for word, told in (
            (("then", A, NONE), True), (("then", NONE, A), True), (("then", NONE, NONE), True),
            (("then", A, B), False), (("then", EMPTY, EMPTY), False),
            (("or", A, NONE), False), (("or", NONE, A), False), (("or", NONE, NONE), True),
            (("or", A, B), False), (("or", EMPTY, NONE), False),
            (("again", NONE), False), (("again", A), False),
            (("more", NONE), True), (("more", A), False), (("more", ("again", NONE)), False),
            (("maybe", NONE), False), (("maybe", A), False),
        ):
            self.assertIs(spells_none(word), told, word)

    def test_all_small_words(self):
        for word in words_up_to(5, (A, EMPTY, NONE)):
            rows, _ = numbered_rows(word, 4)
            self.assertIs(spells_none(word), not rows, word)

    def test_greater_words(self):
        chooser = Chooser(4)
        for _ in range(300):
            word = chooser.word(40, 20)
            self.assertIs(formed(word), True)
            self.assertIs(spells_none(("then", word, NONE)), True)
            self.assertIs(spells_none(("or", word, A)), False)


class ArgumentsTest(unittest.TestCase):
    def test_by_name(self):
        self.assertIs(formed(word=A), True)
        self.assertEqual(leaves_of(word=A), [A])
        self.assertIs(spells_none(word=NONE), True)


if __name__ == "__main__":
    unittest.main()
