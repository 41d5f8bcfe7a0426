"""Points 8 and 9: a web, its deeds and refusals, and its marks."""

import unittest

from webmaking import HUGE, Model, chosen_deed, state_of, web_of
from wordmaking import Chooser
from wordways.errors import Full, NoMark, NoName, NoPlace, NoTie, Tied
from wordways.webs import MOST_PLACES, MOST_TIES, Web

NO_NAMES = ("", "A", "a1", "abcdefghi", "^a", "a b", " a", "a ", "a\n", ".", "()", "a.b", "a" * 40000)
NO_NUMBERS = (-1, -2, -HUGE, 5, 100, HUGE)


class WebCase(unittest.TestCase):
    def refused(self, error, web, deed):
        """The deed is refused, and changes nothing, the next numbers neither."""
        before = state_of(web)
        with self.assertRaises(error) as caught:
            deed()
        self.assertIs(type(caught.exception), error)
        self.assertEqual(state_of(web), before)
        return caught.exception

    def next_numbers(self, web):
        """The numbers that are given next; the web is as it was behind it."""
        mark = web.mark()
        place = web.place()
        tie = web.tie(place, "a", place)
        web.undo(mark)
        return place, tie


class DeedTest(WebCase):
    def test_a_new_web(self):
        web = Web()
        self.assertEqual(state_of(web), ([], [], [], 0))
        self.assertIs(bool(web), False)

    def test_numbers_in_the_order_made(self):
        web = Web()
        self.assertEqual([web.place() for _ in range(3)], [0, 1, 2])
        self.assertEqual(web.places(), [0, 1, 2])
        self.assertEqual([web.tie(2, "ab", 0), web.tie(0, "ab", 2), web.tie(1, "abcdefgh", 1)], [0, 1, 2])
        self.assertEqual(web.ties(), [(0, 2, "ab", 0), (1, 0, "ab", 2), (2, 1, "abcdefgh", 1)])
        self.assertEqual(len(web), 3)
        self.assertIs(bool(web), True)

    def test_ties_alike_and_at_one_place(self):
        web = web_of(2, [(0, "a", 1), (0, "a", 1), (1, "a", 1), (1, "a", 1), (1, "b", 0)])
        self.assertEqual([web.ends_of(tie) for tie in range(5)],
                         [(0, "a", 1), (0, "a", 1), (1, "a", 1), (1, "a", 1), (1, "b", 0)])
        self.assertEqual(web.ties_at(0), [0, 1, 4])
        self.assertEqual(web.ties_at(1), [0, 1, 2, 3, 4])

    def test_what_tells_nothing_gives_none(self):
        web = web_of(1, [(0, "a", 0)])
        mark = web.mark()
        self.assertEqual([web.cut(0), web.drop(0), web.undo(mark)], [None, None, None])

    def test_a_number_is_not_given_again(self):
        web = web_of(3, [(0, "a", 0), (1, "b", 1), (1, "c", 0)])
        web.cut(2)
        web.cut(1)
        web.drop(2)
        web.drop(1)
        self.assertEqual(state_of(web), ([0], [(0, 0, "a", 0)], [[0]], 1))
        self.assertEqual(web.place(), 3)
        self.assertEqual(web.tie(3, "a", 0), 3)
        web.cut(0)
        web.cut(3)
        web.drop(0)
        web.drop(3)
        self.assertEqual(state_of(web), ([], [], [], 0))
        self.assertEqual(web.place(), 4)
        self.assertEqual(web.tie(4, "a", 4), 4)
        self.assertEqual(web.ties(), [(4, 4, "a", 4)])

    def test_all_by_name_and_in_any_order(self):
        web = Web(most_ties=2, most_places=3)
        for _ in range(3):
            web.place()
        self.assertEqual(web.tie(goal=2, start=0, name="a"), 0)
        self.assertEqual(web.tie(1, goal=2, name="b"), 1)
        self.assertEqual(web.ends_of(tie=1), (1, "b", 2))
        self.assertEqual(web.ties_at(place=2), [0, 1])
        web.cut(tie=1)
        web.drop(place=1)
        mark = web.mark()
        web.undo(mark=mark)
        self.assertEqual(web.places(), [0, 2])

    def test_mosts_by_name_alone(self):
        with self.assertRaises(TypeError):
            Web(3)
        with self.assertRaises(TypeError):
            Web(3, 4)


class MostTest(WebCase):
    def test_mosts_by_default(self):
        self.assertEqual((MOST_PLACES, MOST_TIES), (60, 200))
        web = Web()
        self.assertEqual([web.place() for _ in range(60)], list(range(60)))
        self.assertEqual(self.refused(Full, web, web.place).most, 60)
        self.assertEqual([web.tie(k % 60, "a", k % 7) for k in range(200)], list(range(200)))
        self.assertEqual(self.refused(Full, web, lambda: web.tie(0, "a", 0)).most, 200)
        self.assertEqual((len(web.places()), len(web)), (60, 200))

    def test_one_of_two_mosts(self):
        web = Web(most_places=1)
        web.place()
        self.assertEqual(self.refused(Full, web, web.place).most, 1)
        for _ in range(200):
            web.tie(0, "a", 0)
        self.assertEqual(self.refused(Full, web, lambda: web.tie(0, "a", 0)).most, 200)
        web = Web(most_ties=1)
        for _ in range(60):
            web.place()
        self.assertEqual(self.refused(Full, web, web.place).most, 60)
        web.tie(3, "a", 4)
        self.assertEqual(self.refused(Full, web, lambda: web.tie(0, "a", 0)).most, 1)

    def test_mosts_of_none(self):
        web = Web(most_places=0, most_ties=0)
        self.assertEqual(self.refused(Full, web, web.place).most, 0)
        web = Web(most_ties=0)
        web.place()
        self.assertEqual(self.refused(Full, web, lambda: web.tie(0, "a", 0)).most, 0)

    def test_huge_mosts(self):
        web = Web(most_places=HUGE, most_ties=HUGE)
        for k in range(300):
            web.place()
            web.tie(k, "a", 0)
        self.assertEqual((len(web.places()), len(web)), (300, 300))

    def test_only_what_stands_counts_and_a_refusal_takes_no_number(self):
        web = Web(most_places=2, most_ties=2)
        web.place()
        web.place()
        web.tie(0, "a", 0)
        web.tie(0, "b", 0)
        for _ in range(3):
            self.refused(Full, web, web.place)
            self.refused(Full, web, lambda: web.tie(1, "c", 1))
        web.cut(0)
        self.assertEqual(web.tie(0, "c", 0), 2)
        self.refused(Full, web, lambda: web.tie(1, "c", 1))
        web.drop(1)
        self.assertEqual(web.place(), 2)
        self.refused(Full, web, web.place)
        self.assertEqual(web.ties(), [(1, 0, "b", 0), (2, 0, "c", 0)])


class RefusalTest(WebCase):
    def setUp(self):
        self.web = web_of(5, [(0, "a", 1), (1, "a", 1), (2, "b", 1)], cuts=[2], drops=[2])

    def test_ties_to_places_not_there(self):
        web = self.web
        for place in (2, *NO_NUMBERS):
            for name in ("a", "", "^a"):
                self.refused(NoPlace, web, lambda: web.tie(place, name, 0))
                self.refused(NoPlace, web, lambda: web.tie(0, name, place))
                self.refused(NoPlace, web, lambda: web.tie(place, name, place))
        self.assertEqual(self.next_numbers(web), (5, 3))

    def test_names_that_are_none(self):
        for name in NO_NAMES:
            self.refused(NoName, self.web, lambda: self.web.tie(0, name, 1))
        self.assertEqual(self.next_numbers(self.web), (5, 3))

    def test_the_order_of_refusals_of_a_tie(self):
        for many in (0, 2):
            web = Web(most_ties=many)
            for _ in range(2):
                web.place()
            for _ in range(many):
                web.tie(0, "a", 1)
            self.refused(NoPlace, web, lambda: web.tie(2, "A", 0))
            self.refused(NoPlace, web, lambda: web.tie(0, "A", 2))
            self.refused(NoPlace, web, lambda: web.tie(0, "a", 2))
            self.refused(NoName, web, lambda: web.tie(0, "A", 1))
            self.assertEqual(self.refused(Full, web, lambda: web.tie(0, "a", 1)).most, many)

    def test_ties_not_there(self):
        web = self.web
        for tie in (2, 3, *NO_NUMBERS):
            self.refused(NoTie, web, lambda: web.cut(tie))
            self.refused(NoTie, web, lambda: web.ends_of(tie))

    def test_places_not_there_or_tied(self):
        web = self.web
        for place in (2, *NO_NUMBERS):
            self.refused(NoPlace, web, lambda: web.drop(place))
            self.refused(NoPlace, web, lambda: web.ties_at(place))
        self.refused(Tied, web, lambda: web.drop(0))
        self.refused(Tied, web, lambda: web.drop(1))
        web.cut(0)
        web.drop(0)
        self.refused(Tied, web, lambda: web.drop(1))
        web.cut(1)
        web.drop(1)
        self.assertEqual(web.places(), [3, 4])
        self.refused(NoPlace, web, lambda: web.drop(0))


class MarkTest(WebCase):
    def test_undone_to_a_mark(self):
        web = Web()
        self.assertEqual(web.mark(), 0)
        web.place()
        web.place()
        web.tie(0, "a", 1)
        self.assertEqual(web.mark(), 1)
        told = state_of(web)
        web.cut(0)
        web.drop(0)
        self.assertEqual(web.place(), 2)
        self.assertEqual(web.tie(2, "b", 1), 1)
        web.undo(1)
        self.assertEqual(state_of(web), told)
        self.assertEqual(web.place(), 2)
        self.assertEqual(web.tie(2, "c", 2), 1)
        web.undo(0)
        self.assertEqual(state_of(web), ([], [], [], 0))
        self.assertEqual(web.place(), 0)
        self.assertEqual(web.tie(0, "c", 0), 0)

    def test_a_mark_stays_and_later_ones_go(self):
        web = Web()
        self.assertEqual([web.mark() for _ in range(4)], [0, 1, 2, 3])
        web.undo(2)
        self.refused(NoMark, web, lambda: web.undo(3))
        for _ in range(3):
            web.place()
            web.undo(2)
            self.assertEqual(web.places(), [])
        self.assertEqual(web.mark(), 3)
        web.undo(0)
        for mark in (1, 2, 3):
            self.refused(NoMark, web, lambda: web.undo(mark))
        web.undo(0)
        self.assertEqual(web.mark(), 1)

    def test_what_a_mark_keeps_is_not_changed_behind_it(self):
        web = web_of(2, [(0, "a", 1)])
        told = state_of(web)
        mark = web.mark()
        for _ in range(3):
            web.place()
            web.tie(2, "b", 0)
            web.cut(0)
            web.undo(mark)
            self.assertEqual(state_of(web), told)
            self.assertEqual(self.next_numbers(web), (2, 1))
            web.undo(mark)

    def test_marks_not_there(self):
        web = Web()
        self.refused(NoMark, web, lambda: web.undo(0))
        web.mark()
        for mark in (-1, -2, 1, HUGE, -HUGE):
            self.refused(NoMark, web, lambda: web.undo(mark))
        web.undo(0)

    def test_mosts_stay_as_they_are(self):
        web = Web(most_places=1, most_ties=1)
        mark = web.mark()
        web.place()
        web.tie(0, "a", 0)
        self.refused(Full, web, web.place)
        web.undo(mark)
        web.place()
        self.refused(Full, web, web.place)
        web.tie(0, "a", 0)
        self.refused(Full, web, lambda: web.tie(0, "a", 0))

    def test_four_hundred_marks(self):
        web = Web()
        told = []
        for k in range(400):
            if k % 10 == 0:
                web.place()
            if k % 2 == 0:
                web.tie(k // 20, "a", 0)
            elif k % 3 == 0:
                web.cut(web.ties()[k % len(web)][0])
            told.append(state_of(web))
            self.assertEqual(web.mark(), k)
        for mark in [399, 398, 350, 350, 349, 201, 200, 30, 7, 0]:
            web.undo(mark)
            self.assertEqual(state_of(web), told[mark])
            self.refused(NoMark, web, lambda: web.undo(mark + 1))


class HistoryTest(WebCase):
    def test_chosen_histories(self):
        for seed in range(40):
            chooser = Chooser(seed)
            mosts = (chooser.below(9), chooser.below(12))
            web = Web(most_places=mosts[0], most_ties=mosts[1])
            model = Model(*mosts)
            for _ in range(150):
                deed, *worth = chosen_deed(chooser, model)
                told = model.do(deed, *worth)
                if isinstance(told, type):
                    error = self.refused(told, web, lambda: getattr(web, deed)(*worth))
                    if told is Full:
                        self.assertEqual(error.most, mosts[deed == "tie"])
                else:
                    self.assertEqual(getattr(web, deed)(*worth), told)
                self.assertEqual(web.places(), model.now["places"])
                self.assertEqual(web.ties(), model.now["ties"])
                self.assertEqual(len(web), len(model.now["ties"]))
                for place in web.places():
                    at = [one[0] for one in model.now["ties"] if place in one[1::2]]
                    self.assertEqual(web.ties_at(place), at)
                for tie, *ends in web.ties():
                    self.assertEqual(web.ends_of(tie), tuple(ends))


class ListTest(WebCase):
    def test_lists_are_the_askers_own(self):
        web = web_of(2, [(0, "a", 1), (1, "b", 1)])
        told = state_of(web)
        for ask in (web.places, web.ties, lambda: web.ties_at(1)):
            first, second = ask(), ask()
            self.assertIs(type(first), list)
            self.assertIsNot(first, second)
            first.clear()
            self.assertEqual(ask(), second)
        self.assertEqual(state_of(web), told)
        for tie in web.ties():
            self.assertIs(type(tie), tuple)
        self.assertIs(type(web.ends_of(0)), tuple)

    def test_neither_of_two_webs_changes_the_other(self):
        one, two = Web(), Web()
        one.place()
        one.mark()
        one.tie(0, "a", 0)
        self.assertEqual(state_of(two), ([], [], [], 0))
        self.refused(NoMark, two, lambda: two.undo(0))
        two.place()
        two.place()
        two.mark()
        two.mark()
        self.refused(NoMark, one, lambda: one.undo(1))
        self.assertEqual(state_of(one), ([0], [(0, 0, "a", 0)], [[0]], 1))
        one.undo(0)
        self.assertEqual(two.places(), [0, 1])


if __name__ == "__main__":
    unittest.main()
