"""Point 21: webs written as rows of text, and read."""

import unittest

from webmaking import chosen_web, state_of, web_of
from wordmaking import Chooser
from wordways.errors import Full, NoText, NotFormed
from wordways.texts import read_web, read_whole, web_text
from wordways.webs import Web

FIFTY = "9" * 50
SMALL = "place 0\nplace 2\nplace 7\ntie 1 0 a 2\ntie 4 7 abcdefgh 7"


def rows(*lines):
    return "\n".join(lines)


class WholeTest(unittest.TestCase):
    def test_numbers(self):
        for number in (*range(120), 10 ** 49 - 1, 10 ** 49, 10 ** 50 - 1):
            self.assertEqual(read_whole(str(number)), number)
            self.assertIs(type(read_whole(str(number))), int)
        self.assertEqual(read_whole(FIFTY), 10 ** 50 - 1)
        self.assertEqual(read_whole(text="12"), 12)

    def test_texts_that_are_none(self):
        for text in (
            "", "00", "01", "007", "0" * 50, "-1", "-0", "+1", " 1", "1 ", "1\n", "\n1", "1_0", "1.0", "0x1", "1e3", "a",
            "one", "1 2", "1,0", "9" * 51, "1" + "0" * 50, "9" * 400, "0" + FIFTY, "^1", "1" * 51, "~", " ", "\n",
        ):
            with self.subTest(text=text), self.assertRaises(NoText) as caught:
                read_whole(text)
            self.assertIs(type(caught.exception), NoText)


class WriteTest(unittest.TestCase):
    def test_webs(self):
        self.assertEqual(web_text(Web()), "")
        self.assertEqual(web_text(web_of(1, [])), "place 0")
        self.assertEqual(web_text(web_of(2, [])), "place 0\nplace 1")

    def test_gaps(self):
        web = web_of(12, [(0, "a", 1), (11, "abcdefgh", 11), (0, "b", 11)], cuts=[0], drops=range(1, 10))
        told = state_of(web)
        self.assertEqual(
            web_text(web), rows("place 0", "place 10", "place 11", "tie 1 11 abcdefgh 11", "tie 2 0 b 11"))
        self.assertEqual(state_of(web), told)
        self.assertEqual(web_text(web=web), web_text(web))

    def test_rising_by_number(self):
        web = web_of(12, [(k, "a", 11 - k) for k in range(12)])
        lines = [f"place {k}" for k in range(12)] + [f"tie {k} {k} a {11 - k}" for k in range(12)]
        self.assertEqual(web_text(web), rows(*lines))

    def test_more_than_may_be_read(self):
        web = Web(most_places=61)
        for _ in range(61):
            web.place()
        with self.assertRaises(NotFormed):
            read_web(web_text(web))


class ReadTest(unittest.TestCase):
    def no_text(self, text, error=NoText):
        with self.subTest(text=text), self.assertRaises(error) as caught:
            read_web(text)
        self.assertIs(type(caught.exception), error)

    def test_just_these_numbers(self):
        web = read_web(SMALL)
        self.assertIs(type(web), Web)
        self.assertEqual(web.places(), [0, 2, 7])
        self.assertEqual(web.ties(), [(1, 0, "a", 2), (4, 7, "abcdefgh", 7)])
        self.assertEqual((web.ends_of(4), web.ties_at(7), len(web)), ((7, "abcdefgh", 7), [4], 2))

    def test_the_next_numbers(self):
        web = read_web(SMALL)
        self.assertEqual((web.place(), web.tie(8, "b", 0)), (8, 5))
        web = read_web("")
        self.assertEqual((web.place(), web.tie(0, "b", 0)), (0, 0))
        web = read_web("place 3")
        self.assertEqual((web.place(), web.tie(3, "b", 4)), (4, 0))
        web = read_web(f"place {FIFTY}\ntie {FIFTY} {FIFTY} a {FIFTY}")
        self.assertEqual((web.place(), web.tie(10 ** 50, "b", 10 ** 50)), (10 ** 50, 10 ** 50))
        self.assertEqual(web.places(), [10 ** 50 - 1, 10 ** 50])

    def test_a_web_as_any_other(self):
        web = read_web(SMALL)
        mark = web.mark()
        self.assertEqual(mark, 0)
        web.cut(4)
        web.drop(7)
        self.assertEqual((web.place(), web.tie(8, "a", 8)), (8, 5))
        web.undo(mark)
        self.assertEqual(web_text(web), SMALL)
        self.assertEqual((web.place(), web.tie(8, "a", 8)), (8, 5))
        for _ in range(56):
            web.place()
        with self.assertRaises(Full) as caught:
            web.place()
        self.assertEqual(caught.exception.most, 60)

    def test_there_and_back(self):
        for seed in range(60):
            chooser = Chooser(seed)
            web = chosen_web(chooser, 1 + chooser.below(12), chooser.below(15), ("a", "b", "place", "tie", "abcdefgh"))
            text = web_text(web)
            again = read_web(text)
            self.assertEqual(state_of(again), state_of(web))
            self.assertEqual(web_text(again), text)

    def test_the_text_without_signs(self):
        self.assertEqual(state_of(read_web("")), ([], [], [], 0))
        for text in ("\n", " ", "\n\n"):
            self.no_text(text)

    def test_signs_where_none_may_stand(self):
        for k in range(len(SMALL) + 1):
            for sign in (" ", "\n", "~", "^", "A", "-", "."):
                self.no_text(SMALL[:k] + sign + SMALL[k:])

    def test_signs_left_out(self):
        for k in range(len(SMALL)):
            # A name, or a number, that lacks a sign may be one still.
            if SMALL[k] in " \n" or SMALL[k - 1:k + 2].count(" ") == 2 or SMALL[k:k + 1] in "pti":
                self.no_text(SMALL[:k] + SMALL[k + 1:])

    def test_rows_that_are_none(self):
        for row in (
            "", "place", "place ", "place  3", "place a", "place -1", "place 01", "place 3 4", "Place 3", "places 3", "3",
            "tie", "tie 5 0 a", "tie 5 0 a 0 0", "tie 5 0 A 0", "tie 5 0  0", "tie 5 0 abcdefghi 0", "tie 5 0 ^a 0",
            "tie 5 0 . 0", "tie 05 0 a 0", "tie 5 00 a 0", "tie 5 0 a 00", "tie a 0 a 0", "tie 5 a 0 0", "tie 5 0 0 a",
            "tie 5 0 a 0 ", " tie 5 0 a 0", "tie  5 0 a 0", "tie 5 -0 a 0", "place 3\r", "place 3\t", "mark 0", "tie 5 0 1 0",
        ):
            self.no_text(rows(SMALL, row))
            self.no_text(rows(row, SMALL))
            if row:
                self.no_text(row)

    def test_places_behind_ties(self):
        self.no_text(rows("place 0", "tie 0 0 a 0", "place 1"))
        self.no_text(rows("tie 0 0 a 0", "place 0"))

    def test_figures(self):
        self.assertEqual(read_web(f"place {FIFTY}").places(), [10 ** 50 - 1])
        for number in (FIFTY + "0", "9" * 400, "0" + FIFTY, "00"):
            self.no_text(f"place {number}")
            self.no_text(rows("place 0", f"tie {number} 0 a 0"))
            self.no_text(rows("place 0", f"tie 0 {number} a 0"))
            self.no_text(rows("place 0", f"tie 0 0 a {number}"))

    def test_numbers_that_do_not_rise(self):
        for text in (
            rows("place 1", "place 1"), rows("place 1", "place 0"), rows("place 9", "place 10", "place 2"),
            rows("place 0", "tie 1 0 a 0", "tie 1 0 a 0"), rows("place 0", "tie 1 0 a 0", "tie 0 0 a 0"),
            rows("place 0", "tie 9 0 a 0", "tie 10 0 a 0", "tie 2 0 a 0"),
        ):
            self.no_text(text, NotFormed)
        self.assertEqual(read_web(rows("place 9", "place 10", "place 200")).places(), [9, 10, 200])

    def test_ends_that_are_no_places(self):
        for text in (
            "tie 0 0 a 0", rows("place 0", "tie 0 1 a 0"), rows("place 0", "tie 0 0 a 1"),
            rows("place 1", "place 3", "tie 0 1 a 3", f"tie 1 3 a {FIFTY}"),
        ):
            self.no_text(text, NotFormed)

    def test_sixty_places_and_two_hundred_ties_and_one_more(self):
        places = [f"place {k}" for k in range(60)]
        ties = [f"tie {k} {k % 60} a {k % 7}" for k in range(200)]
        text = rows(*places, *ties)
        web = read_web(text)
        self.assertEqual((len(web.places()), len(web)), (60, 200))
        self.assertEqual(web_text(web), text)
        for refused in (web.place, lambda: web.tie(0, "a", 0)):
            self.assertRaises(Full, refused)
        self.no_text(rows(*places, "place 60", *ties), NotFormed)
        self.no_text(rows(*places, *ties, "tie 200 0 a 0"), NotFormed)
        self.no_text(rows(*places, "place 60"), NotFormed)
        self.no_text(rows(*[f"place {10 ** 49 + k}" for k in range(61)]), NotFormed)

    def test_the_longest_texts(self):
        first = 10 ** 50 - 300
        places = [f"place {first + k}" for k in range(60)]
        ties = [f"tie {first + k} {first + k % 60} abcdefgh {first + k % 7}" for k in range(200)]
        text = rows(*places, *ties)
        self.assertEqual(web_text(read_web(text)), text)
        self.no_text("place 0\n" * 5000)
        self.no_text(rows(*["place 0"] * 5000), NotFormed)
        self.no_text("place " + "a" * 39994)
        self.no_text("\n" * 40000)
        self.no_text(" " * 40000)

    def test_no_text_ahead_of_not_formed(self):
        for bad in (
            rows("place 1", "place 1"), "tie 0 0 a 0", rows("place 0", "tie 1 0 a 0", "tie 1 0 a 0"),
            rows(*[f"place {k}" for k in range(61)]), rows("place 0", *[f"tie {k} 0 a 0" for k in range(201)]),
        ):
            self.no_text(bad, NotFormed)
            for row in ("", "tie 999 0 A 0", "tie 0999 0 a 0", "tie 999 0 a", "places 1"):
                self.no_text(rows(bad, row), NoText)

    def test_neither_of_two_webs_changes_the_other(self):
        one, two = read_web(SMALL), read_web(text=SMALL)
        one.cut(1)
        one.drop(0)
        one.mark()
        one.tie(one.place(), "c", 7)
        self.assertEqual(web_text(two), SMALL)
        self.assertEqual((two.mark(), two.place(), two.tie(8, "a", 8)), (0, 8, 5))
        one.undo(0)
        self.assertEqual(web_text(one), rows("place 2", "place 7", "tie 4 7 abcdefgh 7"))


if __name__ == "__main__":
    unittest.main()
