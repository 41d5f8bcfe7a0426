"""Point 7: words as texts, shown and read."""

import itertools
import unittest

from wordmaking import (
    A, ANY, ANYBACK, B, BACK_A, C, EMPTY, LEAVES, NONE, Chooser, balanced, deepened,
    either, then, words_up_to,
)
from wordways.errors import NoText
from wordways.words import formed
from wordways.wordtexts import read, shown

D = ("name", "d")

TEXTS = {
    "a": A,
    "abcdefgh": ("name", "abcdefgh"),
    "^a": BACK_A,
    "^abcdefgh": ("back", "abcdefgh"),
    ".": ANY,
    "^.": ANYBACK,
    "()": EMPTY,
    "!": NONE,
    "a b": ("then", A, B),
    "a|b": ("or", A, B),
    "a*": ("again", A),
    "a+": ("more", A),
    "a?": ("maybe", A),
    # The first part of a then.
    "(a b) c": ("then", ("then", A, B), C),
    "(a|b) c": ("then", ("or", A, B), C),
    "a* b": ("then", ("again", A), B),
    # The second part of a then.
    "a b c": ("then", A, ("then", B, C)),
    "a (b|c)": ("then", A, ("or", B, C)),
    "a b+": ("then", A, ("more", B)),
    "a b (c|d)": ("then", A, ("then", B, ("or", C, D))),
    # The first part of an or.
    "(a|b)|c": ("or", ("or", A, B), C),
    "a b|c": ("or", ("then", A, B), C),
    "a?|c": ("or", ("maybe", A), C),
    # The second part of an or.
    "a|b|c": ("or", A, ("or", B, C)),
    "a|b c": ("or", A, ("then", B, C)),
    "a|b c|d": ("or", A, ("or", ("then", B, C), D)),
    # The part of an again, more or maybe.
    "(a b)*": ("again", ("then", A, B)),
    "(a b)+": ("more", ("then", A, B)),
    "(a b)?": ("maybe", ("then", A, B)),
    "(a|b)*": ("again", ("or", A, B)),
    "(a|b)+": ("more", ("or", A, B)),
    "(a|b)?": ("maybe", ("or", A, B)),
    "a*+?": ("maybe", ("more", ("again", A))),
    "a**": ("again", ("again", A)),
    "^a?": ("maybe", BACK_A),
    ".*": ("again", ANY),
    "^.*": ("again", ANYBACK),
    "()*": ("again", EMPTY),
    "!+": ("more", NONE),
    # Within one another.
    "() ! ()": ("then", EMPTY, ("then", NONE, EMPTY)),
    "()|!|^.": ("or", EMPTY, ("or", NONE, ANYBACK)),
    "((a b) c|d)* ()": ("then", ("again", ("or", ("then", ("then", A, B), C), D)), EMPTY),
    "((a|b)*|c d?)+": ("more", ("or", ("again", ("or", A, B)), ("then", C, ("maybe", D)))),
    "((a b) (c|d)) a": ("then", ("then", ("then", A, B), ("or", C, D)), A),
}

REFUSED = (
    # Brackets round anything else.
    "(a)", "((a b)) c", "(())", "(!)", "(.)", "(^a)", "^(a)", "(a b)", "(a|b)", "(a*)", "(a)*", "(a*)*",
    "a (b c)", "(a) b", "a (b)", "(a b)|c", "a|(b|c)", "a|(b c)", "a|(b)", "(a|b)|(c|d)", "((a|b)) c",
    "((a b)*)", "((a b)*)*", "(()) a", "a (())", "((a|b) c)", "(a b)* (c d)",
    # Brackets too many or too few.
    "(", ")", "(a", "a)", "(a b", "a b)", "(a b))*", "((a b)*", "(a b)*)", ")a(", "((", "))", ")(", "()(", "())",
    "(a|b c", "a|b) c", "(a b)c)* d",
    # Blanks.
    " ", "", "  ", " a", "a ", "a  b", "a | b", "a| b", "a |b", "a *", "^ a", "( )", "( a b) c", "(a b ) c",
    "(a b)  c", "a b ", " .", "a\nb", "a\n", "\n", "\ta",
    # Strokes.
    "|", "a|", "|a", "a||b", "a|b|", "(|a) b", "(a|) b", "a|*", "||",
    # Marks.
    "*", "+", "?", "*a", "+ a", "a *b", "a|*b", "(*)", "(*a b)", "?()", "^*", "a*b", "a+.", "a?()", "a*(b c)",
    # Two words with nothing between them.
    "a.", ".a", "..", "a!", "!a", "!!", "a()", "()a", "()()", "a^b", "a^", ".^.", "^.^.", "^..", "^.a", "(a b)c",
    "a(b|c)", "(a|b)(c|d)", "a^.", "(a b)^c",
    # No names.
    "^", "^^", "^^a", "^!", "^()", "abcdefghi", "^abcdefghi", "A", "aB", "a1", "1", "a_b", "a-b", "a,b", "a b&c",
    "{a}", "[a]", "a~", "a/b", "\\", "'a'", '"', "a=b", "name A", "a:b",
)


class ShownTest(unittest.TestCase):
    def test_each_text(self):
        for text, word in TEXTS.items():
            self.assertEqual(shown(word), text)

    def test_no_two_small_words_have_one_text(self):
        words = words_up_to(4)
        self.assertEqual(len({shown(word) for word in words}), len(words))

    def test_great_words(self):
        names = [("name", "abcdefgh")] * 20
        self.assertEqual(shown(then(*names)), " ".join(["abcdefgh"] * 20))
        self.assertEqual(shown(either(*names)), "|".join(["abcdefgh"] * 20))
        self.assertEqual(shown(deepened(A, 19, "more")), "a" + "+" * 19)
        word = balanced([A, B, C, D] * 10, ("then",))
        self.assertEqual(shown(word).replace("(", "").replace(")", ""), " ".join("abcd" * 10))
        self.assertEqual(shown(balanced([A, B, C, D] * 2, ("then", "or"))), "(a b|c d) (a b|c d)")
        self.assertEqual(shown(balanced([A, B, C, D] * 2, ("or", "then"))), "(a|b) (c|d)|(a|b) (c|d)")

    def test_by_name(self):
        self.assertEqual(shown(word=A), "a")


class ReadTest(unittest.TestCase):
    def assert_refused(self, text):
        with self.assertRaises(NoText, msg=text[:60]):
            read(text)

    def test_each_text(self):
        for text, word in TEXTS.items():
            self.assertEqual(read(text), word)
            self.assertTrue(formed(read(text)))

    def test_each_refused_text(self):
        for text in REFUSED:
            self.assert_refused(text)

    def test_all_small_words_are_read_back(self):
        for word in words_up_to(4):
            self.assertEqual(read(shown(word)), word)

    def test_greater_words_are_read_back(self):
        chooser = Chooser(8)
        for _ in range(500):
            word = chooser.word(40, 20)
            self.assertEqual(read(shown(word)), word)

    def test_all_short_texts(self):
        # Words whose texts have at most four signs have at most four parts.
        leaves = (A, ("name", "aa"), ("name", "aaa"), ("name", "aaaa"), BACK_A,
                  ("back", "aa"), ("back", "aaa"), ANY, ANYBACK, EMPTY, NONE)
        known = {shown(word): word for word in words_up_to(4, leaves)}
        for length in range(5):
            for signs in itertools.product("a^.()!|*+? ", repeat=length):
                text = "".join(signs)
                if text in known:
                    self.assertEqual(read(text), known[text])
                else:
                    self.assert_refused(text)

    def test_every_other_sign_is_refused(self):
        for code in [10] + list(range(32, 127)):
            sign = chr(code)
            if sign not in "abcdefghijklmnopqrstuvwxyz^.()!|*+? ":
                for text in (sign, "a" + sign, sign + "a", "a " + sign, "a" + sign + "b"):
                    self.assert_refused(text)

    def test_by_name(self):
        self.assertEqual(read(text="a"), A)


class BoundsTest(unittest.TestCase):
    assert_refused = ReadTest.assert_refused

    def test_twenty_deep(self):
        self.assertEqual(read(" ".join(["a"] * 20)), then(*[A] * 20))
        self.assert_refused(" ".join(["a"] * 21))
        self.assertEqual(read("|".join(["a"] * 20)), either(*[A] * 20))
        self.assert_refused("|".join(["a"] * 21))
        for mark, kind in (("*", "again"), ("+", "more"), ("?", "maybe")):
            self.assertEqual(read("a" + mark * 19), deepened(A, 19, kind))
            self.assert_refused("a" + mark * 20)
        self.assertEqual(read("(a b)" + "*" * 18), deepened(("then", A, B), 18))
        self.assert_refused("(a b)" + "*" * 19)
        left = A
        for _ in range(19):
            left = ("then", left, B)
        self.assertEqual(read("(" * 18 + "a b" + ") b" * 18), left)
        self.assert_refused("(" * 19 + "a b" + ") b" * 19)

    def test_forty_leaves(self):
        for leaves in ([A] * 41, [LEAVES[k % len(LEAVES)] for k in range(41)], [EMPTY] * 41, [NONE] * 41, [ANY] * 41):
            for kinds in (("then",), ("or",), ("then", "or")):
                word = balanced(leaves[:40], kinds)
                self.assertEqual(read(shown(word)), word)
                self.assert_refused(shown(balanced(leaves, kinds)))
        word = ("or", then(*[A] * 19), ("or", then(*[B] * 18), ("or", C, ("or", C, C))))
        self.assertEqual(read(shown(word)), word)
        self.assert_refused(shown(("or", word, C)))

    def test_words_too_great_are_shown(self):
        self.assertEqual(shown(then(*[A] * 60)), " ".join(["a"] * 60))
        self.assertEqual(shown(deepened(A, 30)), "a" + "*" * 30)

    def test_brackets_however_deep(self):
        for many in (19, 20, 21, 100, 299, 300, 600):
            self.assert_refused("(" * many)
            self.assert_refused(")" * many)
        for many in (100, 299):
            self.assert_refused("(" * many + "a" + ")" * many)
            self.assert_refused("(" * many + ")" * many)
            self.assert_refused("(" * many + "a" + ")" * (many - 1))
        for behind in (" a", "|a", "*"):
            many = 596 // (2 + len(behind))
            text = "(" * many + "a b" + (")" + behind) * many
            self.assertLessEqual(len(text), 600)
            self.assert_refused(text)

    def test_six_hundred_signs(self):
        self.assert_refused("a" + "*" * 599)
        self.assert_refused("a " * 299 + "ab")
        self.assert_refused("a|" * 299 + "ab")
        self.assert_refused("()" * 300)
        self.assert_refused("a" * 600)
        self.assert_refused(" " * 600)
        self.assert_refused("^" * 600)

    def test_words_of_six_hundred_signs_and_more(self):
        leaf = ("back", "abcdefgh")
        rest = 600 - len(shown(balanced([leaf] * 40, ("or", "then"))))
        for marks in (rest, rest + 1, rest + 200):
            leaves = [deepened(leaf, (marks + k) // 40) for k in range(40)]
            word = balanced(leaves, ("or", "then"))
            self.assertEqual(len(shown(word)), 600 + marks - rest)
            self.assertEqual(read(shown(word)), word)
            self.assert_refused(shown(word) + "|a")
            self.assert_refused("(" + shown(word) + ")")

    def test_longer_texts_do_not_go_too_deep(self):
        self.assert_refused("(" * 20000 + ")" * 20000)
        self.assert_refused("a" + "*" * 30000)
        self.assert_refused("a " * 19999 + "a")


if __name__ == "__main__":
    unittest.main()
