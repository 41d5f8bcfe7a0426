"""Points 15 and 16: ways counted, told by number and back, and all of them."""

import unittest

from webmaking import HUGE, NO_WORDS, chosen_web, chosen_words, state_of, walks, way_of, ways_of, web_of
from wordmaking import A, ANY, ANYBACK, B, BACK_A, C, EMPTY, NONE, Chooser, deepened, either, spells, then
from wordways.counts import MOST_STEPS, count_all, count_ways, number_of, way_at
from wordways.errors import NoPlace, NotFormed, NoWay
from wordways.ways import way_fault

ON, BACK = "on", "back"
STEP = either(ANY, ANYBACK)
ALL = ("again", STEP)


def cases(seeds, places=3, ties=4, leaves=5):
    for seed in range(seeds):
        chooser = Chooser(seed)
        web = chosen_web(chooser, places, 2 + chooser.below(ties - 1))
        for word in chosen_words(chooser, 3, leaves, 5):
            yield web, word


class CountCase(unittest.TestCase):
    def no_way(self, many, call):
        with self.assertRaises(NoWay) as caught:
            call()
        self.assertEqual(caught.exception.many, many)


class ChosenTest(CountCase):
    def test_counts_ways_and_numbers(self):
        told = 0
        for web, word in cases(60):
            before = state_of(web)
            for start in web.places():
                for goal in web.places():
                    for length in range(4):
                        told += self.check(web, word, start, goal, length)
            self.assertEqual(state_of(web), before)
        self.assertGreater(told, 1000)

    def check(self, web, word, start, goal, length):
        ways = ways_of(web, word, start, goal, length)
        ends = {"start": start, "goal": goal}
        self.assertEqual(count_ways(web, word, length=length, **ends), len(ways))
        for number, steps in enumerate(ways):
            self.assertEqual(way_at(web, word, number, length=length, **ends), steps)
            self.assertEqual(number_of(web, word, steps, **ends), number)
        for number in (-1, len(ways), -HUGE, HUGE):
            self.no_way(len(ways), lambda: way_at(web, word, number, length=length, **ends))
        for steps, _, _ in walks(web, start, length)[:9]:
            if steps not in ways:
                self.no_way(len(ways), lambda: number_of(web, word, steps, **ends))
        return len(ways)

    def test_words_of_six_leaves(self):
        for web, word in cases(25, places=2, ties=3, leaves=6):
            for start in web.places():
                self.check(web, word, start, web.places()[-1], 4)

    def test_all_of_them(self):
        told = {"count": 0, "endless": 0}
        for web, word in cases(100):
            for start in web.places():
                for goal in web.places():
                    answer = count_all(web, word, start=start, goal=goal)
                    told[answer[0]] += 1
                    self.check_all(web, word, start, goal, answer)
        self.assertGreater(min(told.values()), 200)

    def check_all(self, web, word, start, goal, answer):
        # Ways that do not go on without end come to no pair of a place and a state twice.
        lengths = [count_ways(web, word, start=start, goal=goal, length=length) for length in range(21)]
        if answer[0] == "count":
            self.assertEqual(answer, ("count", sum(lengths)))
        else:
            kind, first, ring, last = answer
            self.assertEqual(kind, "endless")
            self.assertTrue(ring)
            self.assertGreater(sum(lengths), 0)
            for many in range(5):
                self.assertTrue(way_of(web, word, first + ring * many + last, start, goal))

    def test_webs_without_rings(self):
        for seed in range(40):
            chooser = Chooser(seed)
            ends = [sorted((chooser.below(6), chooser.below(6))) for _ in range(9)]
            web = web_of(6, [(start, chooser.of("ab"), goal) for start, goal in ends if start < goal])
            for word in (("again", ANY), ("more", ("or", A, then(B, ("maybe", A)))), then(("again", ANY), A, B)):
                many = sum(len(ways_of(web, word, 0, 5, length)) for length in range(6))
                self.assertEqual(count_all(web, word, start=0, goal=5), ("count", many))
                back = ("again", ANYBACK)
                many = sum(len(ways_of(web, back, 5, 0, length)) for length in range(6))
                self.assertEqual(count_all(web, back, start=5, goal=0), ("count", many))


class CountTest(CountCase):
    def test_each_way_once(self):
        web = web_of(2, [(0, "a", 1)])
        for word in (("or", A, A), ("or", A, ANY), ("again", ("again", A)), ("more", ("maybe", ("maybe", A))),
                     then(("maybe", A), ("again", ANY), ("maybe", A))):
            self.assertEqual(count_ways(web, word, start=0, goal=1, length=1), 1)
            self.assertEqual(count_all(web, word, start=0, goal=1), ("count", 1))
            self.assertEqual(way_at(web, word, 0, start=0, goal=1, length=1), [(0, ON)])
            self.no_way(1, lambda: way_at(web, word, 1, start=0, goal=1, length=1))

    def test_ties_alike_are_several_ways(self):
        web = web_of(2, [(0, "a", 1)] * 3 + [(1, "a", 0)])
        self.assertEqual(count_ways(web, A, start=0, goal=1, length=1), 3)
        self.assertEqual(count_ways(web, ("or", A, ANYBACK), start=0, goal=1, length=1), 4)
        self.assertEqual(
            [way_at(web, STEP, number, start=0, goal=1, length=1) for number in range(4)],
            [[(0, ON)], [(1, ON)], [(2, ON)], [(3, BACK)]])

    def test_a_tie_at_one_place_gone_on_and_back(self):
        web = web_of(1, [(0, "a", 0)])
        self.assertEqual(count_ways(web, STEP, start=0, goal=0, length=1), 2)
        self.assertEqual(way_at(web, STEP, 0, start=0, goal=0, length=1), [(0, BACK)])
        self.assertEqual(way_at(web, STEP, 1, start=0, goal=0, length=1), [(0, ON)])
        self.assertEqual(number_of(web, STEP, [(0, ON)], start=0, goal=0), 1)
        self.assertEqual(count_ways(web, A, start=0, goal=0, length=1), 1)
        self.assertEqual(count_all(web, STEP, start=0, goal=0), ("count", 2))

    def test_no_steps(self):
        web = web_of(2, [(0, "a", 1)])
        for word, start, goal, many in (
            (EMPTY, 0, 0, 1), (ALL, 1, 1, 1), (("maybe", A), 0, 0, 1), (A, 0, 0, 0), (NONE, 0, 0, 0), (EMPTY, 0, 1, 0),
        ):
            ends = {"start": start, "goal": goal}
            self.assertEqual(count_ways(web, word, length=0, **ends), many)
            if many:
                self.assertEqual(way_at(web, word, 0, length=0, **ends), [])
                self.assertEqual(number_of(web, word, [], **ends), 0)
            else:
                self.no_way(0, lambda: way_at(web, word, 0, length=0, **ends))
                self.no_way(0, lambda: number_of(web, word, [], **ends))
            self.no_way(many, lambda: way_at(web, word, many, length=0, **ends))
            self.no_way(many, lambda: way_at(web, word, -1, length=0, **ends))

    def test_forty_steps_and_by_default(self):
        self.assertEqual(MOST_STEPS, 40)
        web = web_of(1, [(0, "a", 0)])
        many = 2 ** 40
        ends = {"start": 0, "goal": 0}
        self.assertEqual(count_ways(web, ALL, **ends), many)
        self.assertEqual(count_ways(web, ALL, length=40, **ends), many)
        self.assertEqual(way_at(web, ALL, 0, **ends), [(0, BACK)] * 40)
        self.assertEqual(way_at(web, ALL, many - 1, **ends), [(0, ON)] * 40)
        self.assertEqual(way_at(web, ALL, 5, **ends), [(0, BACK)] * 37 + [(0, ON), (0, BACK), (0, ON)])
        self.no_way(many, lambda: way_at(web, ALL, many, **ends))
        self.no_way(many, lambda: way_at(web, ALL, -1, **ends))
        self.assertEqual(number_of(web, ALL, [(0, ON)] * 40, **ends), many - 1)
        self.assertEqual(number_of(web, ALL, [(0, BACK)] * 40, **ends), 0)
        self.no_way(many, lambda: number_of(web, ALL, [(0, ON)] * 39 + [(1, ON)], **ends))
        # The same letter twice, apart: counted by their rows, not by their runs.
        word = then(ALL, A, ALL)
        self.assertEqual(count_ways(web, word, **ends), many - 1)

    def test_the_greatest_web_and_words(self):
        web = web_of(12, [(k % 12, "ab"[k // 24], (5 * k + k // 12) % 12) for k in range(40)])
        for word in (then(ALL, A, ANY, ANY, B), then(("again", ANY), ("or", A, ("back", "b")), ANY, ("again", ANYBACK))):
            for start, goal in ((0, 0), (3, 7)):
                ends = {"start": start, "goal": goal}
                many = count_ways(web, word, **ends)
                self.assertGreater(many, 40)
                for number in (0, 1, many // 3, many - 2, many - 1):
                    steps = way_at(web, word, number, **ends)
                    self.assertEqual(len(steps), 40)
                    self.assertIsNone(way_fault(web, word, steps, **ends))
                    self.assertEqual(number_of(web, word, steps, **ends), number)
                self.assertLess(way_at(web, word, many // 3, **ends), way_at(web, word, many // 3 + 1, **ends))
                self.no_way(many, lambda: way_at(web, word, many, **ends))


class NumberTest(CountCase):
    def setUp(self):
        self.web = web_of(4, [(0, "a", 1), (1, "b", 2), (0, "a", 1), (0, "c", 3)], cuts=[3], drops=[3])
        self.word = then(A, B)

    def test_ways_that_are_none(self):
        web, word = self.web, self.word
        self.assertEqual(number_of(web, word, [(0, ON), (1, ON)], start=0, goal=2), 0)
        self.assertEqual(number_of(web, word, [(2, ON), (1, ON)], start=0, goal=2), 1)
        for steps in (
            [(0, ON), (1, BACK)], [(0, ON), (0, ON)], [(1, ON), (0, ON)], [(0, ON), (3, ON)], [(3, ON), (1, ON)],
            [(0, ""), (1, ON)], [(0, ON), (1, "up")], [(0, "On"), (1, ON)], [(9, ON), (1, ON)], [(-1, ON), (1, ON)],
            [(0, ON), (HUGE, ON)], [(-HUGE, ""), (HUGE, "")], [(0, ON), (0, BACK)], [(1, ON), (1, BACK)],
        ):
            before = list(steps)
            self.no_way(2, lambda: number_of(web, word, steps, start=0, goal=2))
            self.assertEqual(steps, before)

    def test_ways_of_another_length(self):
        for steps in ([], [(0, ON)], [(0, ON), (1, ON), (1, BACK)], [(0, ON)] * 40, [(7, "")] * 40):
            self.no_way(0, lambda: number_of(self.web, self.word, steps, start=0, goal=2))

    def test_a_way_to_another_goal_or_of_another_row(self):
        web = self.web
        self.no_way(0, lambda: number_of(web, self.word, [(0, ON), (1, ON)], start=0, goal=1))
        self.no_way(0, lambda: number_of(web, self.word, [(0, ON), (1, ON)], start=1, goal=2))
        self.no_way(0, lambda: number_of(web, then(A, A), [(0, ON), (1, ON)], start=0, goal=2))
        word = then(A, ("maybe", B))
        self.no_way(2, lambda: number_of(web, word, [(0, BACK)], start=0, goal=1))
        # Each step of it may stand in a way, but it does not end where it must.
        self.no_way(0, lambda: number_of(web, word, [(0, ON)], start=0, goal=2))
        self.no_way(2, lambda: number_of(web, then(A, ALL), [(0, ON), (2, BACK)], start=0, goal=2))


class AllTest(CountCase):
    def test_counts(self):
        web = web_of(4, [(0, "a", 1), (0, "a", 1), (1, "b", 2), (0, "c", 2), (2, "c", 3)])
        self.assertEqual(count_all(web, ("again", ANY), start=0, goal=2), ("count", 3))
        self.assertEqual(count_all(web, ("again", ANY), start=0, goal=3), ("count", 3))
        self.assertEqual(count_all(web, ("again", ANY), start=2, goal=2), ("count", 1))
        self.assertEqual(count_all(web, ("again", ANY), start=3, goal=0), ("count", 0))
        self.assertEqual(count_all(web, NONE, start=0, goal=0), ("count", 0))
        self.assertEqual(count_all(web, EMPTY, start=0, goal=0), ("count", 1))
        self.assertEqual(count_all(web, ("more", C), start=0, goal=3), ("count", 1))

    def test_a_ring_that_leads_to_no_end_is_none(self):
        web = web_of(3, [(0, "a", 1), (0, "b", 2), (2, "a", 2)])
        self.assertEqual(count_all(web, ("again", ANY), start=0, goal=1), ("count", 1))
        web = web_of(3, [(0, "a", 1), (2, "a", 2), (2, "a", 0)])
        self.assertEqual(count_all(web, ("again", ANY), start=0, goal=1), ("count", 1))
        web = web_of(2, [(0, "a", 0), (0, "b", 1)])
        self.assertEqual(count_all(web, then(ANY, ANY), start=0, goal=1), ("count", 1))
        self.assertEqual(count_all(web, ("or", B, then(("again", A), C)), start=0, goal=1), ("count", 1))

    def test_rings(self):
        web = web_of(4, [(0, "a", 1), (1, "b", 2), (2, "a", 1), (1, "c", 3)])
        word = then(A, ("again", then(B, A)), C)
        kind, first, ring, last = count_all(web, word, start=0, goal=3)
        self.assertEqual((kind, len(ring)), ("endless", 2))
        for many in range(6):
            self.assertIsNone(way_fault(web, word, first + ring * many + last, start=0, goal=3))
        web = web_of(1, [(0, "a", 0)])
        self.assertEqual(count_all(web, ("again", A), start=0, goal=0)[0], "endless")
        web = web_of(2, [(0, "a", 1)])
        self.assertEqual(count_all(web, ("again", ANY), start=0, goal=1), ("count", 1))
        kind, first, ring, last = count_all(web, ALL, start=0, goal=1)
        self.assertEqual(kind, "endless")
        for many in range(6):
            self.assertIsNone(way_fault(web, ALL, first + ring * many + last, start=0, goal=1))

    def test_rings_that_only_the_word_makes_long(self):
        web = web_of(1, [(0, "a", 0), (0, "b", 0)])
        word = ("again", then(A, B, A, BACK_A, ("or", B, C)))
        kind, first, ring, last = count_all(web, word, start=0, goal=0)
        self.assertEqual((kind, len(ring)), ("endless", 5))
        for many in range(4):
            self.assertTrue(spells(word, tuple(self.letters(web, first + ring * many + last))))

    def letters(self, web, steps):
        return [web.ends_of(tie)[1] if side == ON else "^" + web.ends_of(tie)[1] for tie, side in steps]

    def test_many_ways_without_a_ring(self):
        web = web_of(12, [(k, "a", k + 1) for k in range(11) for _ in range(3)])
        self.assertEqual(count_all(web, ("again", A), start=0, goal=11), ("count", 3 ** 11))
        self.assertEqual(count_all(web, then(("again", A), A, ("again", A)), start=0, goal=11), ("count", 3 ** 11))
        self.assertEqual(count_ways(web, ("again", A), start=0, goal=11, length=11), 3 ** 11)
        self.assertEqual(count_ways(web, ("again", A), start=0, goal=11), 0)


class RefusalTest(CountCase):
    def setUp(self):
        web = web_of(3, [(0, "a", 1)], drops=[2])
        self.asks = (
            lambda word, **ends: count_ways(web, word, **ends),
            lambda word, **ends: way_at(web, word, HUGE, **ends),
            lambda word, **ends: number_of(web, word, [(9, "")], **ends),
            lambda word, **ends: count_all(web, word, **ends),
        )

    def test_words_that_are_none(self):
        for ask in self.asks:
            for word in NO_WORDS:
                for start, goal in ((0, 1), (2, 0), (0, 2), (HUGE, -HUGE)):
                    with self.assertRaises(NotFormed):
                        ask(word, start=start, goal=goal)

    def test_places_that_are_none(self):
        for ask in self.asks:
            for place in (2, 3, -1, HUGE, -HUGE):
                for word in (A, EMPTY, NONE):
                    for start, goal in ((place, 0), (0, place), (place, place)):
                        with self.assertRaises(NoPlace):
                            ask(word, start=start, goal=goal)

    def test_form_alone_tells_a_word(self):
        web = web_of(2, [(0, "a", 1)])
        word = deepened(A, 29, "maybe")
        self.assertEqual(count_all(web, word, start=0, goal=1), ("count", 1))


class CallTest(CountCase):
    def test_behind_a_star_by_name_alone(self):
        web = web_of(2, [(0, "a", 1)])
        for call in (
            lambda: count_ways(web, A, 0, 1), lambda: count_ways(web, A, 1, start=0, goal=1),
            lambda: way_at(web, A, 0, 0, 1), lambda: way_at(web, A, 0, 1, start=0, goal=1),
            lambda: number_of(web, A, [], 0, 1), lambda: count_all(web, A, 0, 1),
        ):
            self.assertRaises(TypeError, call)

    def test_by_name_in_any_order(self):
        web = web_of(2, [(0, "a", 1)])
        self.assertEqual(count_ways(length=1, goal=1, word=A, start=0, web=web), 1)
        self.assertEqual(way_at(length=1, goal=1, number=0, start=0, word=A, web=web), [(0, ON)])
        self.assertEqual(number_of(goal=1, steps=[(0, ON)], start=0, word=A, web=web), 0)
        self.assertEqual(count_all(goal=1, start=0, word=A, web=web), ("count", 1))

    def test_lists_are_the_askers_own(self):
        web = web_of(2, [(0, "a", 1), (1, "a", 1)])
        word = ("again", A)
        told = state_of(web)
        lists = way_at(web, word, 0, start=0, goal=1), *count_all(web, word, start=0, goal=1)[1:]
        self.assertEqual(len({id(one) for one in lists}), 4)
        for one in lists:
            self.assertIs(type(one), list)
            one.append(9)
        self.assertEqual(way_at(web, word, 0, start=0, goal=1), [(0, ON)] + [(1, ON)] * 39)
        self.assertEqual(count_all(web, word, start=0, goal=1)[0], "endless")
        self.assertEqual(state_of(web), told)


if __name__ == "__main__":
    unittest.main()
