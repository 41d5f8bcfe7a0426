"""Point 22: a reply to a web's text and a question."""

import unittest

from webmaking import chosen_web, chosen_words, least_steps, web_of
from wordmaking import Chooser
from wordways.errors import NoPlace, NoText, NotFormed
from wordways.replies import reply
from wordways.texts import read_web, web_text
from wordways.trails import bare_way, trail
from wordways.ways import way_fault
from wordways.wordtexts import shown

KINDS = ("any", "shortest", "trail", "bare")
FIFTY = "9" * 50
WEB = web_text(web_of(3, [(0, "a", 1), (1, "b", 2), (2, "from", 0)]))


def line_of(places, ties):
    """The text of a line of places, ties alike put behind one another."""
    return web_text(web_of(places, [(k % (places - 1), "a", k % (places - 1) + 1) for k in range(ties)]))


def steps_of(text):
    """The steps that a reply tells, or None."""
    if text == "none":
        return None
    word, *steps = text.split(" ")
    assert word == "way"
    return [(int(step[1:]), "back") if step[0] == "^" else (int(step), "on") for step in steps]


class ReplyCase(unittest.TestCase):
    def refused(self, error, web, question):
        with self.subTest(web=web[:200], question=question[:200]):
            with self.assertRaises(error) as caught:
                reply(web, question)
            self.assertIs(type(caught.exception), error)


class ReplyTest(ReplyCase):
    def test_small_cases(self):
        for kind in KINDS:
            for question, told in (
                ("a from 0 to 1", "way 0"), ("a b from 0 to 2", "way 0 1"), ("^a from 1 to 0", "way ^0"),
                (".* from 0 to 0", "way"), ("() from 2 to 2", "way"), ("! from 0 to 0", "none"), ("b from 0 to 1", "none"),
                ("^b ^a from 2 to 0", "way ^1 ^0"), ("(b|^a)+ from 0 to 2", "none"), ("^. .? from 0 to 2", "way ^2"),
            ):
                self.assertEqual(reply(WEB, f"{kind} {question}"), told)

    def test_kinds_differ(self):
        web = web_text(web_of(2, [(0, "a", 1)]))
        question = "a ^a a from 0 to 1"
        self.assertEqual(reply(web, "any " + question), "way 0 ^0 0")
        self.assertEqual(reply(web, "shortest " + question), "way 0 ^0 0")
        self.assertEqual(reply(web, "trail " + question), "none")
        web = web_text(web_of(2, [(0, "a", 1), (0, "a", 1), (0, "a", 1)]))
        self.assertEqual(reply(web, "trail " + question), "way 0 ^1 2")
        self.assertEqual(reply(web, "bare " + question), "none")

    def test_chosen_questions(self):
        told = {"way": 0, "none": 0}
        for seed in range(60):
            chooser = Chooser(seed)
            web = chosen_web(chooser, 2 + chooser.below(4), chooser.below(9))
            text = web_text(web)
            for word in chosen_words(chooser, 4, 5, 4):
                start, goal = chooser.of(web.places()), chooser.of(web.places())
                least = least_steps(web, word, start).get(goal)
                for kind in KINDS:
                    answer = reply(text, f"{kind} {shown(word)} from {start} to {goal}")
                    told[answer[:4].strip()] += 1
                    self.check(web, word, start, goal, kind, least, steps_of(answer))
        self.assertGreater(min(told.values()), 250)

    def check(self, web, word, start, goal, kind, least, steps):
        ends = {"start": start, "goal": goal}
        if steps is not None:
            self.assertIsNone(way_fault(web, word, steps, **ends))
        if kind == "trail":
            self.assertEqual(steps, trail(web, word, **ends))
        elif kind == "bare":
            self.assertEqual(steps, bare_way(web, word, **ends))
        else:
            self.assertEqual(steps is None, least is None)
            if kind == "shortest" and least is not None:
                self.assertEqual(len(steps), least)

    def test_great_numbers(self):
        last = 10 ** 50 - 1
        web = f"place 7\nplace {last}\ntie {last} 7 a {last}"
        for kind in KINDS:
            self.assertEqual(reply(web, f"{kind} a from 7 to {last}"), f"way {last}")
            self.assertEqual(reply(web, f"{kind} ^a from {last} to 7"), f"way ^{last}")
            self.assertEqual(reply(web, f"{kind} a from {last} to 7"), "none")

    def test_a_word_with_a_name_from(self):
        for kind in KINDS:
            self.assertEqual(reply(WEB, f"{kind} ^from from 0 to 2"), "way ^2")
            self.assertEqual(reply(WEB, f"{kind} from+ from 2 to 0"), "way 2")
            self.assertEqual(reply(WEB, f"{kind} from? from 2 to 0"), "way 2")
            self.assertEqual(reply(WEB, f"{kind} from|a from 0 to 1"), "way 0")
            self.assertEqual(reply(WEB, f"{kind} (from|a)* b from 0 to 2"), "way 0 1")
            self.assertEqual(reply(WEB, f"{kind} b (a|from) from 1 to 0"), "way 1 2")
            # A from by itself ends the word, wherever it stands.
            self.refused(NoText, WEB, f"{kind} from from 2 to 0")
            self.refused(NoText, WEB, f"{kind} from from 2 to 0 from 2 to 0")
            self.refused(NoText, WEB, f"{kind} b from from 1 to 0")
            self.refused(NoText, WEB, f"{kind} from a from 2 to 1")
            self.refused(NoText, WEB, f"{kind} (a from b) from 0 to 1")

    def test_by_name(self):
        self.assertEqual(reply(question="any a from 0 to 1", web=WEB), "way 0")

    def test_great_words(self):
        # Twenty deep, and one more.
        self.assertEqual(reply(WEB, "any " + "(" * 18 + "a b" + ") c" * 18 + " from 0 to 1"), "none")
        self.refused(NoText, WEB, "any " + "(" * 19 + "a b" + ") c" * 19 + " from 0 to 1")
        word = "|".join(["a"] * 20)
        self.assertEqual(reply(WEB, f"any {word} from 0 to 1"), "way 0")
        self.refused(NoText, WEB, f"any {word}|a from 0 to 1")
        self.refused(NoText, WEB, f"any {'(' * 299}a{')' * 299} from 0 to 1")
        self.refused(NoText, WEB, f"any {'(' * 10000}a{')' * 10000} from 0 to 1")


class RefusalTest(ReplyCase):
    BAD_TEXTS = ("\n", "place", "place 0\n", "place 00", "place 0\ntie 0 0 A 0", "place " + FIFTY + "0", " ")
    BAD_WEBS = (
        "place 1\nplace 1", "tie 0 0 a 0", "place 0\ntie 1 0 a 0\ntie 0 0 a 0", "\n".join(f"place {k}" for k in range(61)),
        "\n".join(["place 0"] + [f"tie {k} 0 a 0" for k in range(201)]))
    BAD_QUESTIONS = (
        "", " ", "any", "any ", "any a", "any a from", "any a from 0", "any a from 0 to", "any a from 0 to ", "a from 0 to 1",
        "any from 0 to 1", "any  from 0 to 1", "any a  from 0 to 1", "any  a from 0 to 1", " any a from 0 to 1",
        "any a from 0 to 1 ", "any a from 0 to 1\n", "any a from  0 to 1", "any a from 0 to 1 2", "any a from 0 1",
        "any a from 0 To 1", "any a From 0 to 1", "any a\nfrom 0 to 1", "any a from 00 to 1", "any a from 0 to 01",
        "any a from -1 to 1", "any a from 0 to -1", "any a from a to 1", "any a from 0 to b", f"any a from {FIFTY}0 to 1",
        f"any a from 0 to {FIFTY}0", "any (a) from 0 to 1", "any A from 0 to 1", "any a| from 0 to 1", "any abcdefghi from 0 to 1",
        "any a from 0 to 1 from 0 to 1", "Any a from 0 to 1", "way a from 0 to 1", "levels a from 0 to 1", "anya from 0 to 1",
        "from a from 0 to 1", "any a to 1 from 0", "any a from 0 to 1\nany a from 0 to 1", "any a" * 8000,
        "trails a from 0 to 1", "bare_way a from 0 to 1", "cut a from 0 to 1", "shortest\na from 0 to 1",
    )

    def test_the_web_ahead_of_all(self):
        for question in ("any a from 0 to 0", "any a from 9 to 9", "trail a from 0 to 0", "", "all a from 0 to 0"):
            for text in self.BAD_TEXTS:
                self.refused(NoText, text, question)
            for text in self.BAD_WEBS:
                self.refused(NotFormed, text, question)
                self.refused(NoText, text + "\n", question)

    def test_then_the_question(self):
        for web in (WEB, "", line_of(2, 9), line_of(9, 17)):
            for question in self.BAD_QUESTIONS:
                self.refused(NoText, web, question)
            self.refused(NoText, web, "all a from 999 to 999")
            self.refused(NoText, web, "trail (a) from 999 to 999")

    def test_then_the_places(self):
        for kind in KINDS:
            for web in (WEB, "", line_of(4, 9), line_of(9, 17)):
                for start, goal in ((9, 0), (0, 9), (9, 9), (FIFTY, 0), (0, FIFTY), (FIFTY, FIFTY)):
                    self.refused(NoPlace, web, f"{kind} a from {start} to {goal}")

    def test_trails_in_webs_of_eight_and_nine_ties(self):
        for places in (2, 9, 60):
            self.assertEqual(reply(line_of(places, 8), "trail a from 0 to 1"), "way 0")
            self.refused(NotFormed, line_of(places, 9), "trail a from 0 to 1")
            self.refused(NotFormed, line_of(places, 200), "trail ! from 0 to 1")
            self.refused(NotFormed, line_of(places, 9), "trail () from 1 to 1")
            self.refused(NoPlace, line_of(places, 9), "trail a from 0 to 60")
            for kind in ("any", "shortest"):
                self.assertIn(reply(line_of(places, 200), kind + " a from 0 to 1"), [f"way {k}" for k in range(200)])
        self.assertEqual(reply(line_of(9, 8), "trail .* from 0 to 8"), "way 0 1 2 3 4 5 6 7")
        self.assertEqual(reply(line_of(7, 16), "bare a+ from 0 to 6"), "way 0 1 2 3 4 5")

    def test_bare_ways_in_the_greatest_webs(self):
        self.assertEqual(reply(line_of(7, 16), "bare a from 0 to 1"), "way 0")
        self.assertEqual(reply(line_of(7, 0), "bare a from 0 to 1"), "none")
        for places, ties in ((8, 0), (8, 1), (8, 16), (7, 17), (2, 17), (8, 17), (60, 200)):
            self.refused(NotFormed, line_of(places, ties), "bare a from 0 to 1")
            self.refused(NotFormed, line_of(places, ties), "bare () from 0 to 0")
            self.refused(NoPlace, line_of(places, ties), "bare a from 60 to 1")
            self.refused(NoText, line_of(places, ties), "bare (a) from 60 to 1")
            self.assertIn(reply(line_of(places, ties), "shortest a from 0 to 1"), ("way 0", "none"))

    def test_the_bounds_look_at_what_stands(self):
        web = read_web(line_of(9, 9))
        web.cut(0)
        self.assertEqual(reply(web_text(web), "trail a a from 0 to 2"), "way 8 1")
        web.cut(7)
        web.drop(8)
        self.refused(NotFormed, web_text(web), "bare a a from 0 to 2")
        web.cut(6)
        web.drop(7)
        self.assertEqual(reply(web_text(web), "bare a a from 0 to 2"), "way 8 1")


if __name__ == "__main__":
    unittest.main()
