"""Points 19 and 20: a store, its rows of deeds, its log, its kept questions, and ways by a kind."""

import copy
import unittest

from webmaking import HUGE, NO_WORDS, Model, chosen_deed, chosen_words, least_steps
from wordmaking import A, ANY, ANYBACK, B, BACK_A, EMPTY, NONE, Chooser, either, then
from wordways.errors import Full, NoAsk, NoKind, NoMark, NoName, NoPlace, NotDone, NotFormed, NoTie, Tied
from wordways.store import Store
from wordways.trails import bare_way, trail
from wordways.ways import any_way, cut_fault, shortest_way, way_fault
from wordways.webs import Web

NO_ASKS = (-1, -2, 40, HUGE, -HUGE)


def store_of(places, ties, **mosts):
    store = Store(**mosts)
    for _ in range(places):
        store.place()
    for start, name, goal in ties:
        store.tie(start, name, goal)
    return store


def answers_from_nothing(web, word):
    return [(start, goal) for start in web.places() for goal in sorted(least_steps(web, word, start))]


def all_told(store):
    """All that a store tells of its web, its log and its questions, but news."""
    places = store.places()
    return (
        places, store.ties(), [store.ties_at(place) for place in places],
        [store.ends_of(one[0]) for one in store.ties()], store.log(), store.asks(),
        [store.answers_of(ask) for ask in store.asks()])


class StoreCase(unittest.TestCase):
    def refused(self, error, store, deed):
        before = all_told(store)
        with self.assertRaises(error) as caught:
            deed()
        self.assertIs(type(caught.exception), error)
        self.assertEqual(all_told(store), before)
        return caught.exception

    def not_done(self, store, deeds, at, error):
        """The row of deeds is refused at one of them, and nothing is changed but the log."""
        before, log, given = all_told(store), store.log(), copy.deepcopy(deeds)
        with self.assertRaises(NotDone) as caught:
            store.do_all(deeds)
        self.assertIs(type(caught.exception), NotDone)
        self.assertEqual(caught.exception.at, at)
        self.assertIs(type(caught.exception.__cause__), error)
        self.assertEqual(store.log(), log + ["in", "back", "out"])
        self.assertEqual(all_told(store)[:4] + all_told(store)[5:], before[:4] + before[5:])
        self.assertEqual(deeds, given)
        return caught.exception.__cause__

    def next_numbers(self, store):
        """The numbers that are given next; the web is as it was behind it."""
        mark = store.mark()
        place = store.place()
        tie = store.tie(place, "a", place)
        store.undo(mark)
        return place, tie


class WebTest(StoreCase):
    def test_a_new_store(self):
        store = Store()
        self.assertEqual(all_told(store), ([], [], [], [], [], [], []))

    def test_a_web_of_its_own(self):
        store = Store()
        self.assertEqual([store.place() for _ in range(3)], [0, 1, 2])
        self.assertEqual([store.tie(0, "a", 1), store.tie(1, "b", 1), store.tie(1, "a", 2)], [0, 1, 2])
        self.assertEqual(store.ends_of(1), (1, "b", 1))
        self.assertEqual(store.ties_at(1), [0, 1, 2])
        self.assertEqual(store.mark(), 0)
        self.assertEqual([store.cut(2), store.drop(2)], [None, None])
        self.assertEqual(store.ties(), [(0, 0, "a", 1), (1, 1, "b", 1)])
        self.assertEqual((store.place(), store.tie(3, "a", 0)), (3, 3))
        self.assertEqual(store.places(), [0, 1, 3])
        self.assertIsNone(store.undo(0))
        self.assertEqual(store.ties(), [(0, 0, "a", 1), (1, 1, "b", 1), (2, 1, "a", 2)])
        self.assertEqual(self.next_numbers(store), (3, 3))
        self.assertEqual(store.log(), [])

    def test_refusals(self):
        store = store_of(3, [(0, "a", 1), (0, "a", 1)])
        store.cut(1)
        store.keep(A)
        for place in (3, -1, HUGE, -HUGE):
            self.refused(NoPlace, store, lambda: store.tie(place, "A", 0))
            self.refused(NoPlace, store, lambda: store.tie(0, "A", place))
            self.refused(NoPlace, store, lambda: store.drop(place))
            self.refused(NoPlace, store, lambda: store.ties_at(place))
        for tie in (1, 2, -1, HUGE, -HUGE):
            self.refused(NoTie, store, lambda: store.cut(tie))
            self.refused(NoTie, store, lambda: store.ends_of(tie))
        self.refused(NoName, store, lambda: store.tie(0, "A", 0))
        self.refused(Tied, store, lambda: store.drop(0))
        self.refused(NoMark, store, lambda: store.undo(0))
        store.mark()
        for mark in (1, -1, HUGE, -HUGE):
            self.refused(NoMark, store, lambda: store.undo(mark))
        self.assertEqual(self.next_numbers(store), (3, 2))

    def test_mosts(self):
        store = store_of(60, [(k % 60, "a", k % 7) for k in range(200)])
        self.assertEqual(self.refused(Full, store, store.place).most, 60)
        self.assertEqual(self.refused(Full, store, lambda: store.tie(0, "a", 0)).most, 200)
        store = store_of(2, [(0, "a", 1)], most_ties=1, most_places=2)
        self.assertEqual(self.refused(Full, store, store.place).most, 2)
        self.assertEqual(self.refused(Full, store, lambda: store.tie(0, "a", 0)).most, 1)
        self.refused(NoPlace, store, lambda: store.tie(2, "A", 0))
        self.refused(NoName, store, lambda: store.tie(0, "A", 0))
        store = Store(most_places=0)
        self.assertEqual(self.refused(Full, store, store.place).most, 0)
        with self.assertRaises(TypeError):
            Store(3)


class RowTest(StoreCase):
    def test_what_each_tells(self):
        store = Store()
        deeds = [
            ("place",), ("place",), ("tie", 0, "a", 1), ("tie", 1, "b", 1), ("cut", 0), ("place",), ("drop", 0),
            ("tie", 2, "abcdefgh", 1),
        ]
        given = list(deeds)
        self.assertEqual(store.do_all(deeds), [0, 1, 0, 1, None, 2, None, 2])
        self.assertEqual(deeds, given)
        self.assertEqual(store.ties(), [(1, 1, "b", 1), (2, 2, "abcdefgh", 1)])
        self.assertEqual(store.places(), [1, 2])
        self.assertEqual(store.log(), ["in", "out"])

    def test_a_row_of_no_deeds(self):
        store = Store()
        self.assertEqual(store.do_all([]), [])
        self.assertEqual(store.do_all([]), [])
        self.assertEqual(store.log(), ["in", "out", "in", "out"])

    def test_refused_at_each_deed(self):
        done = [("place",), ("tie", 0, "b", 3), ("cut", 0), ("drop", 1), ("tie", 3, "a", 3)]
        wrong = (
            (("tie", 9, "A", 0), NoPlace), (("tie", 0, "A", 9), NoPlace), (("tie", 0, "A", 2), NoName),
            (("cut", 9), NoTie), (("cut", -1), NoTie), (("drop", 9), NoPlace), (("drop", 0), Tied),
            (("drop", HUGE), NoPlace),
        )
        for k in range(len(done) + 1):
            for deed, error in wrong:
                store = store_of(3, [(0, "a", 1), (0, "a", 0)])
                self.not_done(store, done[:k] + [deed] + done[k:], k, error)
                self.assertEqual(self.next_numbers(store), (3, 2))
                self.assertEqual(store.do_all(done), [3, 2, None, None, 3])
                self.assertEqual(store.log(), ["in", "back", "out", "in", "out"])

    def test_the_first_and_the_last(self):
        store = store_of(2, [(0, "a", 1)])
        self.not_done(store, [("cut", 1)], 0, NoTie)
        self.not_done(store, [("cut", 1), ("cut", 0), ("cut", 0)], 0, NoTie)
        self.not_done(store, [("cut", 0), ("cut", 0)], 1, NoTie)
        self.not_done(store, [("place",)] * 58 + [("place",)], 58, Full)
        self.assertEqual(store.log(), ["in", "back", "out"] * 4)

    def test_as_many_as_may_be(self):
        store = store_of(1, [], most_places=2, most_ties=1)
        self.assertEqual(self.not_done(store, [("place",), ("place",)], 1, Full).most, 2)
        cause = self.not_done(store, [("tie", 0, "a", 0), ("place",), ("tie", 0, "a", 1)], 2, Full)
        self.assertEqual(cause.most, 1)
        self.assertEqual(store.do_all([("place",), ("tie", 0, "a", 1), ("cut", 0), ("tie", 1, "a", 1)]), [1, 0, None, 1])

    def test_four_hundred_deeds(self):
        store = Store()
        deeds = [("place",)] + [("tie", 0, "a", 0), ("cut", 0)] + [("place",)] * 2
        deeds += [one for k in range(1, 198) for one in (("tie", 1, "a", 2), ("cut", k))]
        self.assertEqual(len(deeds), 399)
        self.assertEqual(store.do_all(deeds + [("drop", 2)])[-3:], [197, None, None])
        self.assertEqual((store.places(), store.ties()), ([0, 1], []))
        self.not_done(store, deeds[3:] + [("drop", 1)] + [("drop", 1)] * 3, 2, NoPlace)

    def test_deeds_that_are_none(self):
        store = store_of(1, [])
        for deed in (
            ("",), ("Place",), ("mark",), ("undo", 0), ("keep", A), ("place ",), ("PLACE", 0), (), ("place", 0), ("cut",),
            ("tie", 0, "a"), ("tie", 0, "a", 0, 0), ("drop", 0, 0),
        ):
            self.not_done(store, [("place",), deed, ("place",)], 1, NotFormed)
            self.assertEqual(self.next_numbers(store), (1, 0))

    def test_marks_stay(self):
        store = store_of(1, [])
        self.assertEqual(store.mark(), 0)
        store.place()
        self.assertEqual(store.mark(), 1)
        store.place()
        told = all_told(store)
        self.not_done(store, [("place",), ("drop", 0), ("drop", 0)], 2, NoPlace)
        self.refused(NoMark, store, lambda: store.undo(2))
        self.assertEqual(all_told(store)[0], told[0])
        store.do_all([("drop", 0), ("drop", 1)])
        self.refused(NoMark, store, lambda: store.undo(2))
        self.assertEqual(store.mark(), 2)
        store.undo(1)
        self.assertEqual(store.places(), [0, 1])
        store.undo(0)
        self.assertEqual(store.places(), [0])
        self.assertEqual(store.mark(), 1)

    def test_the_log_is_never_undone(self):
        store = Store()
        store.mark()
        store.do_all([("place",)])
        self.not_done(store, [("drop", 1)], 0, NoPlace)
        store.place()
        store.undo(0)
        self.assertEqual(store.log(), ["in", "out", "in", "back", "out"])
        self.not_done(store, [("drop", 0)], 0, NoPlace)
        self.assertEqual(store.log(), ["in", "out", "in", "back", "out", "in", "back", "out"])


class QuestionTest(StoreCase):
    def test_numbers_are_never_given_again(self):
        store = store_of(2, [(0, "a", 1)])
        store.mark()
        self.assertEqual([store.keep(A), store.keep(A), store.keep(B)], [0, 1, 2])
        self.assertEqual(store.asks(), [0, 1, 2])
        self.assertIsNone(store.let_go(2))
        self.assertIsNone(store.let_go(0))
        self.assertEqual(store.asks(), [1])
        store.undo(0)
        self.assertEqual(store.asks(), [1])
        self.assertEqual(store.keep(B), 3)
        store.let_go(1)
        store.let_go(3)
        self.assertEqual(store.asks(), [])
        self.assertEqual(store.keep(EMPTY), 4)

    def test_answers_at_every_moment(self):
        store = Store()
        ask = store.keep(then(A, ("again", ANY)))
        both = store.keep(("again", either(ANY, ANYBACK)))
        self.assertEqual(store.answers_of(ask), [])
        store.place()
        self.assertEqual((store.answers_of(ask), store.answers_of(both)), ([], [(0, 0)]))
        store.place()
        mark = store.mark()
        store.tie(0, "a", 1)
        self.assertEqual(store.answers_of(ask), [(0, 1)])
        store.tie(1, "b", 0)
        self.assertEqual(store.answers_of(ask), [(0, 0), (0, 1)])
        self.assertEqual(store.answers_of(both), [(0, 0), (0, 1), (1, 0), (1, 1)])
        store.cut(0)
        self.assertEqual(store.answers_of(ask), [])
        self.assertEqual(store.answers_of(both), [(0, 0), (0, 1), (1, 0), (1, 1)])
        store.undo(mark)
        self.assertEqual(store.answers_of(both), [(0, 0), (1, 1)])
        store.drop(0)
        self.assertEqual(store.answers_of(both), [(1, 1)])

    def test_news(self):
        store = store_of(2, [(0, "a", 1)])
        ask = store.keep(A)
        self.assertEqual(store.news(ask), ([], []))
        store.cut(0)
        store.tie(1, "a", 0)
        store.tie(1, "a", 1)
        self.assertEqual(store.news(ask), ([(1, 0), (1, 1)], [(0, 1)]))
        self.assertEqual(store.news(ask), ([], []))
        self.assertEqual(store.news(ask), ([], []))

    def test_what_came_and_went_between_is_no_news(self):
        store = store_of(2, [(0, "a", 1)])
        ask = store.keep(A)
        store.cut(0)
        store.tie(1, "a", 1)
        store.tie(0, "a", 1)
        store.cut(1)
        self.assertEqual(store.news(ask), ([], []))
        store.cut(2)
        self.assertEqual(store.news(ask), ([], [(0, 1)]))
        store.tie(0, "a", 1)
        self.assertEqual(store.answers_of(ask), [(0, 1)])
        self.assertEqual(store.news(ask), ([(0, 1)], []))

    def test_the_same_word_kept_twice(self):
        store = store_of(2, [])
        one, two = store.keep(A), store.keep(A)
        store.tie(0, "a", 1)
        self.assertEqual(store.news(one), ([(0, 1)], []))
        three = store.keep(A)
        store.tie(1, "a", 1)
        self.assertEqual(store.news(two), ([(0, 1), (1, 1)], []))
        self.assertEqual(store.news(three), ([(1, 1)], []))
        store.let_go(one)
        self.assertEqual(store.answers_of(two), [(0, 1), (1, 1)])
        self.refused(NoAsk, store, lambda: store.news(one))
        self.assertEqual(store.news(two), ([], []))

    def test_behind_an_undone_deed(self):
        store = store_of(2, [])
        mark = store.mark()
        ask = store.keep(A)
        store.tie(0, "a", 1)
        self.assertEqual(store.news(ask), ([(0, 1)], []))
        store.undo(mark)
        self.assertEqual(store.asks(), [ask])
        self.assertEqual(store.answers_of(ask), [])
        self.assertEqual(store.news(ask), ([], [(0, 1)]))
        store.tie(1, "a", 1)
        late = store.keep(A)
        store.undo(mark)
        self.assertEqual(store.news(ask), ([], []))
        self.assertEqual(store.news(late), ([], [(1, 1)]))

    def test_behind_rows_of_deeds(self):
        store = store_of(2, [(0, "a", 1)])
        ask = store.keep(A)
        self.not_done(store, [("cut", 0), ("tie", 1, "a", 1), ("cut", 0)], 2, NoTie)
        self.assertEqual(store.news(ask), ([], []))
        store.do_all([("cut", 0), ("tie", 1, "a", 1)])
        self.assertEqual(store.answers_of(ask), [(1, 1)])
        self.assertEqual(store.news(ask), ([(1, 1)], [(0, 1)]))
        self.not_done(store, [("cut", 1), ("cut", 1)], 1, NoTie)
        self.assertEqual(store.news(ask), ([], []))

    def test_places_dropped_are_news(self):
        store = store_of(2, [])
        ask = store.keep(EMPTY)
        store.drop(0)
        store.place()
        self.assertEqual(store.news(ask), ([(2, 2)], [(0, 0)]))

    def test_forty_questions(self):
        store = store_of(4, [])
        chooser = Chooser(3)
        words = chosen_words(chooser, 40)
        self.assertEqual([store.keep(word) for word in words], list(range(40)))
        before = [store.answers_of(ask) for ask in range(40)]
        for _ in range(6):
            store.tie(chooser.below(4), chooser.of("ab"), chooser.below(4))
        for ask in store.asks():
            now = answers_from_nothing(store, words[ask])
            self.assertEqual(store.answers_of(ask), now)
            self.assertEqual(store.news(ask), (
                [pair for pair in now if pair not in before[ask]], [pair for pair in before[ask] if pair not in now]))
        for ask in range(0, 40, 2):
            store.let_go(ask)
        self.assertEqual(store.asks(), list(range(1, 40, 2)))
        self.assertEqual([store.keep(A) for _ in range(20)], list(range(40, 60)))

    def test_the_greatest_webs_and_words(self):
        chooser = Chooser(11)
        store = store_of(20, [(chooser.below(20), chooser.of("ab"), chooser.below(20)) for _ in range(60)])
        words = [("again", ANY), then(A, B, BACK_A, B), chooser.word(40, 20), chooser.word(40, 20)]
        asks = [store.keep(word) for word in words]
        for tie in range(0, 60, 7):
            store.cut(tie)
            for ask, word in zip(asks, words):
                self.assertEqual(store.answers_of(ask), answers_from_nothing(store, word))

    def test_questions_not_kept(self):
        store = store_of(1, [])
        for call in (store.answers_of, store.news, store.let_go):
            self.refused(NoAsk, store, lambda: call(0))
        store.keep(A)
        store.keep(B)
        store.let_go(0)
        for ask in (0, 2, *NO_ASKS):
            for call in (store.answers_of, store.news, store.let_go):
                self.refused(NoAsk, store, lambda: call(ask))
        self.assertEqual(store.asks(), [1])

    def test_words_that_are_none(self):
        store = store_of(1, [])
        for word in NO_WORDS:
            self.refused(NotFormed, store, lambda: store.keep(word))
        self.assertEqual(store.keep(NONE), 0)
        self.assertEqual(store.answers_of(0), [])


class HistoryTest(StoreCase):
    """A store beside a model of its web, and answers from nothing."""

    def test_chosen_histories(self):
        told = {"done": 0, "refused": 0, "gained": 0, "lost": 0}
        for seed in range(40):
            self.history(seed, told)
        self.assertGreater(min(told.values()), 40)

    def history(self, seed, told):
        self.chooser = Chooser(seed)
        mosts = (3 + self.chooser.below(4), 4 + self.chooser.below(8))
        self.store = Store(most_places=mosts[0], most_ties=mosts[1])
        self.model = Model(*mosts)
        self.kept, self.log, self.given = {}, [], 0
        for _ in range(60):
            choice = self.chooser.below(10)
            if choice < 5:
                self.one_deed()
            elif choice < 7:
                told["done" if self.row_of_deeds() else "refused"] += 1
            elif choice == 7:
                self.keep_or_let_go()
            elif self.kept:
                ask = self.chooser.of(list(self.kept))
                gained, lost = self.check_news(ask)
                told["gained"] += len(gained)
                told["lost"] += len(lost)
            self.check()

    def one_deed(self):
        deed, *worth = chosen_deed(self.chooser, self.model)
        told = self.model.do(deed, *worth)
        if isinstance(told, type):
            self.refused(told, self.store, lambda: getattr(self.store, deed)(*worth))
        else:
            self.assertEqual(getattr(self.store, deed)(*worth), told)

    def row_of_deeds(self):
        before = copy.deepcopy(self.model.now)
        deeds, told = [], []
        for _ in range(self.chooser.below(4)):
            deed = chosen_deed(self.chooser, self.model)
            if deed[0] not in ("mark", "undo"):
                deeds.append(deed)
                told.append(self.model.do(*deed))
        wrong = [k for k, one in enumerate(told) if isinstance(one, type)]
        if wrong:
            self.model.now = before
            self.not_done(self.store, deeds, wrong[0], told[wrong[0]])
            self.log += ["in", "back", "out"]
        else:
            self.assertEqual(self.store.do_all(deeds), told)
            self.log += ["in", "out"]
        return not wrong

    def keep_or_let_go(self):
        if self.kept and self.chooser.below(3) == 0:
            ask = self.chooser.of(list(self.kept))
            self.store.let_go(ask)
            del self.kept[ask]
        else:
            word = self.chooser.word(4, 4)
            self.assertEqual(self.store.keep(word), self.given)
            self.kept[self.given] = [word, answers_from_nothing(self.store, word)]
            self.given += 1

    def check_news(self, ask):
        word, before = self.kept[ask]
        now = answers_from_nothing(self.store, word)
        news = ([pair for pair in now if pair not in before], [pair for pair in before if pair not in now])
        self.assertEqual(self.store.news(ask), news)
        self.assertEqual(self.store.news(ask), ([], []))
        self.kept[ask][1] = now
        return news

    def check(self):
        self.assertEqual(self.store.places(), self.model.now["places"])
        self.assertEqual(self.store.ties(), self.model.now["ties"])
        self.assertEqual(self.store.log(), self.log)
        self.assertEqual(self.store.asks(), sorted(self.kept))
        for ask, (word, _) in self.kept.items():
            self.assertEqual(self.store.answers_of(ask), answers_from_nothing(self.store, word))


class KindTest(StoreCase):
    FUNCTIONS = {"any": any_way, "shortest": shortest_way, "trail": trail, "bare": bare_way}

    def test_each_kind(self):
        found = 0
        for seed in range(40):
            chooser = Chooser(seed)
            ends = [(chooser.below(4), chooser.of("ab"), chooser.below(4)) for _ in range(8)]
            store, web = store_of(4, ends), Web()
            for _ in range(4):
                web.place()
            for start, name, goal in ends:
                web.tie(start, name, goal)
            for word in chosen_words(chooser, 4):
                ends = {"start": chooser.below(4), "goal": chooser.below(4)}
                for kind, function in self.FUNCTIONS.items():
                    told = store.ask(kind, word, **ends)
                    if kind == "any":
                        self.check_any(web, word, ends, told)
                    elif kind == "shortest":
                        self.check_any(web, word, ends, told)
                        self.assertEqual(len(told[1]), len(function(web, word, **ends)[1]))
                    else:
                        self.assertEqual(told, function(web, word, **ends))
                    found += told is not None and told[0:1] != ("cut",)
        self.assertGreater(found, 200)

    def check_any(self, web, word, ends, told):
        fault = way_fault if told[0] == "way" else cut_fault
        self.assertIn(told[0], ("way", "cut"))
        self.assertIsNone(fault(web, word, told[1], **ends))

    def test_small_cases(self):
        store = store_of(2, [(0, "a", 1), (1, "a", 0)])
        self.assertEqual(store.ask("any", A, start=0, goal=1), ("way", [(0, "on")]))
        self.assertEqual(store.ask("shortest", B, start=0, goal=1), ("cut", [(0, 0)]))
        self.assertEqual(store.ask("trail", then(A, A), start=0, goal=0), [(0, "on"), (1, "on")])
        self.assertIsNone(store.ask("bare", then(A, A), start=0, goal=0))
        self.assertEqual(store.ask("bare", EMPTY, start=0, goal=0), [])
        self.assertIsNone(store.ask("trail", then(A, A, A), start=0, goal=1))

    def test_another_kind_ahead_of_all_else(self):
        store = store_of(1, [])
        for kind in ("", "Any", "any ", "way", "shortest way", "bare_way", "a" * 40000):
            for word in (A, *NO_WORDS):
                for start, goal in ((0, 0), (1, 0), (0, -1), (HUGE, HUGE)):
                    self.refused(NoKind, store, lambda: store.ask(kind, word, start=start, goal=goal))

    def test_words_ahead_of_places(self):
        store = store_of(2, [])
        store.drop(1)
        for kind in self.FUNCTIONS:
            for place in (1, 2, -1, HUGE, -HUGE):
                for start, goal in ((place, 0), (0, place), (place, place)):
                    self.refused(NoPlace, store, lambda: store.ask(kind, A, start=start, goal=goal))
                    for word in NO_WORDS:
                        self.refused(NotFormed, store, lambda: store.ask(kind, word, start=start, goal=goal))
            for word in NO_WORDS:
                self.refused(NotFormed, store, lambda: store.ask(kind, word, start=0, goal=0))


class CallTest(StoreCase):
    def test_by_name_in_any_order(self):
        store = Store(most_ties=4, most_places=3)
        self.assertEqual(store.do_all(deeds=[("place",), ("place",), ("place",)]), [0, 1, 2])
        self.assertEqual(store.tie(goal=1, name="a", start=0), 0)
        self.assertEqual(store.ends_of(tie=0), (0, "a", 1))
        self.assertEqual(store.ties_at(place=1), [0])
        self.assertEqual(store.keep(word=A), 0)
        self.assertEqual(store.answers_of(ask=0), [(0, 1)])
        self.assertEqual(store.ask(goal=1, start=0, word=A, kind="trail"), [(0, "on")])
        mark = store.mark()
        store.cut(tie=0)
        store.drop(place=0)
        self.assertEqual(store.news(ask=0), ([], [(0, 1)]))
        store.undo(mark=mark)
        self.assertEqual(store.places(), [0, 1, 2])
        store.let_go(ask=0)
        self.assertEqual(store.asks(), [])
        with self.assertRaises(TypeError):
            store.ask("any", A, 0, 1)

    def test_lists_are_the_askers_own(self):
        store = store_of(2, [(0, "a", 1), (1, "a", 1)])
        store.keep(A)
        store.keep(EMPTY)
        deeds = [("place",)]
        store.do_all(deeds)
        told = all_told(store)
        for ask in (
            store.places, store.ties, lambda: store.ties_at(1), store.log, store.asks, lambda: store.answers_of(0),
            lambda: store.ask("trail", A, start=0, goal=1), lambda: store.ask("any", B, start=0, goal=1)[1],
            lambda: store.ask("any", A, start=0, goal=1)[1], lambda: store.ask("bare", EMPTY, start=0, goal=0),
        ):
            first, second = ask(), ask()
            self.assertIs(type(first), list)
            self.assertIsNot(first, second)
            first.append(9)
            self.assertEqual(ask(), second)
        deeds.clear()
        store.log().clear()
        self.assertEqual(all_told(store), told)
        first, second = store.do_all([]), store.do_all([])
        first.append(9)
        self.assertEqual(second, [])

    def test_news_are_lists_of_their_own(self):
        store = store_of(2, [(0, "a", 1)])
        ask = store.keep(A)
        for _ in range(2):
            gained, lost = store.news(ask)
            self.assertIsNot(gained, lost)
            gained.append((0, 1))
            lost.append((1, 1))
        store.answers_of(ask).append((0, 0))
        store.tie(1, "a", 1)
        gained, lost = store.news(ask)
        self.assertEqual((gained, lost), ([(1, 1)], []))
        gained.clear()
        self.assertEqual(store.answers_of(ask), [(0, 1), (1, 1)])
        self.assertEqual(store.news(ask), ([], []))

    def test_neither_of_two_stores_changes_the_other(self):
        one, two = store_of(2, [(0, "a", 1)]), store_of(2, [])
        one.keep(A)
        one.mark()
        one.do_all([("place",)])
        self.assertEqual(all_told(two), ([0, 1], [], [[], []], [], [], [], []))
        self.refused(NoMark, two, lambda: two.undo(0))
        self.refused(NoAsk, two, lambda: two.news(0))
        two.tie(1, "a", 1)
        self.assertEqual(one.news(0), ([], []))
        self.assertEqual(one.places(), [0, 1, 2])


if __name__ == "__main__":
    unittest.main()
