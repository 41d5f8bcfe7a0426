"""Points 5 and 6: the machine of a word, rows that it takes, words compared."""

import unittest

from wordmaking import (
    A, ANY, ANYBACK, B, BACK_A, C, EMPTY, LEAVES, NONE, Chooser, balanced, deepened,
    either, numbered_rows, rows_up_to, shortest_within, spells, then, words_up_to,
)
from wordways.machines import fits, machine, parted, shortest_row, takes, within
from wordways.words import is_letter, leaves_of

NO_LETTERS = ("", "^", "^^a", "A", "^A", "a1", "a b", " a", "^ a", "a^", "abcdefghi", "^abcdefghi", ".", "^.", "()")
FOUR = ("a", "^a", "z", "^z")


class MachineTest(unittest.TestCase):
    def test_leaves_alone(self):
        for leaf in (A, BACK_A, ANY, ANYBACK):
            self.assertEqual(machine(leaf), ([leaf], [1], [[1], []]))
        self.assertEqual(machine(EMPTY), ([], [0], [[]]))
        self.assertEqual(machine(NONE), ([], [], [[]]))

    def test_each_kind(self):
        self.assertEqual(machine(("then", A, B)), ([A, B], [2], [[1], [2], []]))
        self.assertEqual(machine(("or", A, B)), ([A, B], [1, 2], [[1, 2], [], []]))
        self.assertEqual(machine(("again", A)), ([A], [0, 1], [[1], [1]]))
        self.assertEqual(machine(("more", A)), ([A], [1], [[1], [1]]))
        self.assertEqual(machine(("maybe", A)), ([A], [0, 1], [[1], []]))

    def test_kinds_within_one_another(self):
        word = ("then", ("again", ("or", A, ("then", BACK_A, ANY))), ("maybe", ("more", ANYBACK)))
        self.assertEqual(machine(word), (
            [A, BACK_A, ANY, ANYBACK], [0, 1, 3, 4],
            [[1, 2, 4], [1, 2, 4], [3], [1, 2, 4], [4]],
        ))
        word = ("more", ("then", ("maybe", A), ("maybe", B)))
        self.assertEqual(machine(word), ([A, B], [0, 1, 2], [[1, 2], [1, 2], [1, 2]]))

    def test_leaves_that_stand_in_no_row(self):
        self.assertEqual(machine(("then", A, NONE)), ([A], [], [[], []]))
        self.assertEqual(machine(("then", NONE, A)), ([A], [], [[], []]))
        self.assertEqual(
            machine(("or", ("then", A, ("then", B, NONE)), C)), ([A, B, C], [3], [[3], [], [], []]))
        self.assertEqual(
            machine(("then", C, ("again", ("then", NONE, ("again", A))))), ([C, A], [1], [[1], [], []]))
        self.assertEqual(
            machine(("then", ("again", ("then", A, NONE)), ("then", B, C))),
            ([A, B, C], [3], [[2], [], [3], []]))
        self.assertEqual(machine(("more", ("then", ("again", A), NONE))), ([A], [], [[], []]))

    def test_all_small_words(self):
        for word in words_up_to(5, (A, EMPTY, NONE)):
            rows, end = numbered_rows(word, 6)
            leaves, ends, follows = machine(word)
            self.assertEqual(leaves, [A] * (end - 1))
            self.assertEqual(ends, sorted({row[-1] if row else 0 for row in rows}), word)
            pairs = {pair for row in rows for pair in zip((0,) + row, row)}
            self.assertEqual(follows, [[k for k in range(end) if (at, k) in pairs] for at in range(end)], word)

    def test_a_leaf_by_its_place_not_by_its_name(self):
        self.assertEqual(machine(("then", A, A)), ([A, A], [2], [[1], [2], []]))

    def test_forty_leaves_and_twenty_deep(self):
        leaves = [LEAVES[k % 5] for k in range(40)]
        all_states = list(range(1, 41))
        word = ("again", balanced(leaves, ("or",)))
        self.assertEqual(machine(word), (leaves, [0] + all_states, [all_states] * 41))
        word = then(*leaves[:20])
        self.assertEqual(machine(word), (leaves[:20], [20], [[k] for k in range(1, 21)] + [[]]))
        word = ("then", balanced(leaves[:20], ("or",)), balanced(leaves[20:], ("or",)))
        low, high = all_states[:20], all_states[20:]
        self.assertEqual(machine(word), (leaves, high, [low] + [high] * 20 + [[]] * 20))
        self.assertEqual(machine(deepened(A, 19, "more")), ([A], [1], [[1], [1]]))
        self.assertEqual(machine(deepened(A, 19, "maybe")), ([A], [0, 1], [[1], []]))

    def test_lists_are_new_and_no_two_are_one(self):
        for word in (A, EMPTY, NONE, ("again", A), ("maybe", ("or", A, B)), ("then", A, NONE)):
            net, again = machine(word), machine(word)
            lists = [part for told in (net, again) for part in (*told, *told[2])]
            self.assertEqual(len({id(part) for part in lists}), len(lists))
            self.assertIs(type(net), tuple)
            for part in (*net[2], *net):
                part.append(9)
            self.assertEqual(machine(word), again)


class FitsTest(unittest.TestCase):
    def test_each_leaf(self):
        letters = ("a", "b", "ab", "abcdefgh", "^a", "^b", "^ab", "^abcdefgh")
        for leaf, fitting in (
            (A, ("a",)), (BACK_A, ("^a",)), (("name", "ab"), ("ab",)), (("back", "ab"), ("^ab",)),
            (("name", "abcdefgh"), ("abcdefgh",)), (("back", "abcdefgh"), ("^abcdefgh",)),
            (ANY, letters[:4]), (ANYBACK, letters[4:]), (EMPTY, ()), (NONE, ()),
        ):
            for letter in letters:
                self.assertIs(fits(leaf, letter), letter in fitting, (leaf, letter))

    def test_no_letter_fits_nothing(self):
        for text in NO_LETTERS:
            self.assertIs(is_letter(text), False)
            for leaf in LEAVES:
                self.assertIs(fits(leaf, text), False, (leaf, text))

    def test_by_name(self):
        self.assertIs(fits(letter="a", leaf=A), True)


class TakesTest(unittest.TestCase):
    def test_rows(self):
        word = ("then", ("again", ("or", A, ("then", BACK_A, ANY))), ("maybe", ("more", ANYBACK)))
        for row in ([], ["a"], ["a", "a"], ["^a", "q"], ["^a", "a", "^z", "^a"], ["^b"]):
            self.assertIs(takes(word, row), True, row)
        for row in (["b"], ["^a", "^a", "a"], ["^b", "a"], ["a", "^b", "a"], ["^a", "q", "q"]):
            self.assertIs(takes(word, row), False, row)

    def test_all_small_words(self):
        for size, length in ((3, 3), (4, 2)):
            rows = rows_up_to(FOUR, length)
            for word in words_up_to(size, (A, BACK_A, ANY, EMPTY, NONE)):
                for row in rows:
                    self.assertIs(takes(word, list(row)), spells(word, row), (word, row))

    def test_rows_of_texts_that_are_no_letters(self):
        everything = ("again", ("or", ANY, ANYBACK))
        for text in NO_LETTERS:
            self.assertIs(takes(everything, [text]), False)
            self.assertIs(takes(everything, ["a", text]), False)
            self.assertIs(takes(everything, [text, "a"]), False)
        self.assertIs(takes(everything, ["a", "^abcdefgh", "z"]), True)

    def test_what_spells_nothing_takes_nothing(self):
        for word in (NONE, ("then", A, NONE), ("more", NONE), ("or", NONE, NONE)):
            for row in ([], ["a"], ["a", "a"]):
                self.assertIs(takes(word, row), False)

    def test_great_words_and_long_rows(self):
        leaves = [A] * 40
        self.assertIs(takes(balanced(leaves, ("then",)), ["a"] * 40), True)
        self.assertIs(takes(balanced(leaves, ("then",)), ["a"] * 39), False)
        self.assertIs(takes(("again", balanced(leaves, ("or",))), ["a"] * 400), True)
        self.assertIs(takes(("again", balanced(leaves, ("or",))), ["a"] * 399 + ["^a"]), False)
        self.assertIs(takes(deepened(A, 19), ["a"] * 7), True)

    def test_greater_words(self):
        chooser = Chooser(5)
        for _ in range(200):
            word = chooser.word(12, 10)
            for _ in range(10):
                row = [chooser.of(FOUR + ("b", "^b")) for _ in range(chooser.below(6))]
                self.assertIs(takes(word, row), spells(word, row), (word, row))

    def test_the_row_is_not_changed(self):
        row = ["a", "b"]
        self.assertIs(takes(row=row, word=("then", A, B)), True)
        self.assertEqual(row, ["a", "b"])


class ShortestRowTest(unittest.TestCase):
    def test_leaves(self):
        self.assertEqual(shortest_row(("name", "abcdefgh")), ["abcdefgh"])
        self.assertEqual(shortest_row(("back", "ab")), ["^ab"])
        self.assertEqual(shortest_row(EMPTY), [])
        self.assertIsNone(shortest_row(NONE))
        for leaf in (ANY, ANYBACK):
            row = shortest_row(leaf)
            self.assertEqual(len(row), 1)
            self.assertTrue(fits(leaf, row[0]))

    def test_each_kind(self):
        self.assertEqual(shortest_row(("then", A, BACK_A)), ["a", "^a"])
        self.assertEqual(shortest_row(("or", ("then", A, B), C)), ["c"])
        self.assertEqual(shortest_row(("or", C, ("then", A, B))), ["c"])
        self.assertEqual(shortest_row(("again", A)), [])
        self.assertEqual(shortest_row(("maybe", A)), [])
        self.assertEqual(shortest_row(("more", ("then", A, B))), ["a", "b"])
        self.assertEqual(shortest_row(("more", ("maybe", A))), [])

    def test_no_row_is_spelled(self):
        for word in (("then", A, NONE), ("then", NONE, A), ("more", NONE), ("or", NONE, ("then", A, NONE))):
            self.assertIsNone(shortest_row(word))
        self.assertEqual(shortest_row(("or", NONE, A)), ["a"])
        self.assertEqual(shortest_row(("or", A, NONE)), ["a"])
        self.assertEqual(shortest_row(("again", NONE)), [])
        self.assertEqual(shortest_row(("maybe", NONE)), [])
        self.assertEqual(shortest_row(("or", EMPTY, NONE)), [])
        self.assertEqual(shortest_row(("or", NONE, EMPTY)), [])

    def test_against_the_word_itself(self):
        chooser = Chooser(6)
        letters = ("a", "^a", "b", "^b")
        words = words_up_to(3) + [chooser.word(40, 12) for _ in range(200)]
        for word in words:
            row = shortest_row(word)
            length = shortest_within(word, NONE, letters)
            if length is None:
                self.assertIsNone(row, word)
            else:
                self.assertEqual(len(row), length, word)
                self.assertTrue(spells(word, row))
                self.assertTrue(all(is_letter(letter) for letter in row))

    def test_forty_leaves(self):
        self.assertEqual(shortest_row(balanced([A, BACK_A] * 20, ("then",))), ["a", "^a"] * 20)

    def test_the_list_is_new(self):
        for word in (EMPTY, A, ("again", A), ("or", A, NONE)):
            told = shortest_row(word=word)
            told.append("q")
            self.assertEqual(shortest_row(word), told[:-1])


class CompareTest(unittest.TestCase):
    def letters(self, one, two):
        """All letters of both words, and those of a name that neither has."""
        names = {leaf[1] for leaf in leaves_of(one) + leaves_of(two) if len(leaf) == 2}
        return [side + name for name in sorted(names | {"zzzzzz"}) for side in ("", "^")]

    def assert_within(self, one, two):
        row = within(one, two)
        length = shortest_within(one, two, self.letters(one, two))
        if length is None:
            self.assertIsNone(row, (one, two))
            return None
        self.assertIs(type(row), list)
        self.assertEqual(len(row), length, (one, two))
        self.assertTrue(all(is_letter(letter) for letter in row))
        self.assertTrue(spells(one, row) and not spells(two, row), (one, two))
        return length

    def assert_compared(self, one, two):
        here, there = self.assert_within(one, two), self.assert_within(two, one)
        row = parted(one, two)
        if here is None and there is None:
            self.assertIsNone(row)
            return
        self.assertEqual(len(row), min(k for k in (here, there) if k is not None), (one, two))
        self.assertTrue(all(is_letter(letter) for letter in row))
        self.assertNotEqual(spells(one, row), spells(two, row))

    def test_ordinary_words(self):
        self.assertIsNone(within(A, ("or", A, B)))
        self.assertEqual(within(("or", A, B), A), ["b"])
        self.assertIsNone(within(("more", A), ("again", A)))
        self.assertEqual(within(("again", A), ("more", A)), [])
        self.assertEqual(within(("again", A), ("maybe", A)), ["a", "a"])
        self.assertEqual(within(A, BACK_A), ["a"])
        self.assertEqual(within(BACK_A, A), ["^a"])
        self.assertIsNone(within(("again", ("then", A, A)), ("again", A)))
        self.assertIsNone(within(BACK_A, ANYBACK))
        self.assertIsNone(within(A, ANY))

    def test_names_that_neither_word_has(self):
        for leaves in ("a", "ab", "abcdef"):
            one, two = ANY, either(*[("name", name) for name in leaves])
            row = within(one, two)
            self.assertEqual(len(row), 1)
            self.assertTrue(is_letter(row[0]) and row[0] not in leaves and row[0][0] != "^")
            one, two = ANYBACK, either(*[("back", name) for name in leaves])
            row = within(one, two)
            self.assertEqual(len(row), 1)
            self.assertTrue(is_letter(row[0]) and row[0][0] == "^" and row[0][1:] not in leaves)

    def test_names_of_both_words_are_known(self):
        words = [either(*[("name", name) for name in names]) for names in ("abcdef", "ghijkl")]
        self.assert_compared(words[0], words[1])
        self.assert_compared(("or", words[0], NONE), ("or", NONE, words[0]))
        self.assert_compared(("again", ANY), ("again", either(*[("name", name) for name in "fedcba"])))

    def test_alphabets_that_are_used_up_go_on(self):
        names = "abcdefghijklmnopqrstuvwxyz"
        row = within(ANY, balanced([("name", name) for name in names], ("or",)))
        self.assertEqual(len(row), 1)
        self.assertTrue(is_letter(row[0]) and row[0] not in names)

    def test_none_and_empty(self):
        self.assertIsNone(within(NONE, NONE))
        self.assertIsNone(within(NONE, EMPTY))
        self.assertEqual(within(EMPTY, NONE), [])
        self.assertIsNone(parted(EMPTY, ("again", NONE)))
        self.assertIsNone(parted(NONE, ("then", A, NONE)))
        self.assertEqual(parted(NONE, EMPTY), [])
        self.assertEqual(parted(EMPTY, NONE), [])
        self.assertIsNone(parted(("or", A, ("then", B, NONE)), ("then", A, EMPTY)))

    def test_parted_either_way_round(self):
        long = ("or", A, then(B, B, B))
        short = ("or", A, C)
        self.assertEqual(parted(long, short), ["c"])
        self.assertEqual(parted(short, long), ["c"])
        self.assertEqual(parted(A, ("or", A, B)), ["b"])
        self.assertEqual(parted(("or", A, B), A), ["b"])
        self.assertIsNone(parted(("again", ("again", A)), ("maybe", ("more", A))))
        self.assertIsNone(parted(("or", A, B), ("or", B, A)))

    def test_all_words_of_two_parts(self):
        words = words_up_to(2)
        for one in words:
            for two in words:
                self.assert_compared(one, two)

    def test_six_letter_leaves(self):
        everything = ("or", ANY, ANYBACK)
        sixth = then(("again", everything), A, ANY, ANY, ANY)
        other = then(("again", everything), A, ANY, ANY, everything)
        self.assert_compared(sixth, then(("again", everything), B, ANY, ANY, ANY))
        self.assert_compared(sixth, ("again", everything))
        self.assert_compared(sixth, other)
        maybe = ("maybe", A)
        self.assertEqual(within(("again", A), then(*[maybe] * 6)), ["a"] * 7)
        self.assertEqual(parted(then(*[maybe] * 6), ("again", A)), ["a"] * 7)
        fives, threes, twos = [("again", then(*[A] * many)) for many in (5, 3, 2)]
        self.assertEqual(within(fives, ("or", threes, twos)), ["a"] * 5)
        sixes = ("again", then(*[A] * 6))
        self.assertEqual(within(("or", threes, twos), sixes), ["a"] * 2)
        self.assertEqual(within(("more", then(*[A] * 4)), sixes), ["a"] * 4)
        self.assertIsNone(within(sixes, ("or", threes, twos)))

    def test_greater_words(self):
        chooser = Chooser(7)
        choices = (LEAVES, (A, B), (A, ANY, BACK_A), (A, B, EMPTY), (A, ANY, NONE))
        for _ in range(600):
            choice = chooser.of(choices)
            one, two = [chooser.word(6, 7, choice) for _ in range(2)]
            self.assert_compared(one, two)
            self.assert_compared(one, ("or", one, two))
            self.assert_compared(("again", one), ("again", ("or", two, one)))

    def test_by_name_and_lists_are_new(self):
        self.assertEqual(within(two=A, one=("or", A, B)), ["b"])
        self.assertEqual(parted(two=A, one=("or", A, B)), ["b"])
        for compare in (within, parted):
            for one, two in ((("or", A, B), A), (EMPTY, NONE)):
                told = compare(one, two)
                told.append("q")
                self.assertEqual(compare(one, two), told[:-1])


if __name__ == "__main__":
    unittest.main()
