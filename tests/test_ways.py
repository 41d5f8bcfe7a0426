"""Points 10 to 13: ways and cuts judged and told, levels, who reaches whom."""

import unittest

from webmaking import (
    HUGE, NO_WORDS, chosen_web, chosen_words, least_steps, state_of, walks, way_of, web_of,
)
from wordmaking import (
    A, ANY, ANYBACK, B, BACK_A, EMPTY, NONE, Chooser, balanced, deepened, either, spells, then, words_up_to,
)
from wordways.errors import NoPlace, NotFormed
from wordways.machines import fits, machine
from wordways.ways import answers, any_way, cut_fault, levels, reached, shortest_way, spelled, way_fault

ON, BACK = "on", "back"
NO_SIDES = ("", "On", "ON", " on", "on ", "onn", "o", "backk", "^", "a", "on\n")
NO_NUMBERS = (-1, -HUGE, HUGE, 3)


def line_web():
    """Places 0 a-> 1 b-> 2, a tie at 2 alone, and place 3 that is tied to nothing."""
    return web_of(5, [(0, "a", 1), (4, "c", 4), (1, "b", 2), (2, "c", 2), (0, "a", 1)], cuts=[1], drops=[4])


def pairs_behind(web, word, pair):
    """All pairs to which a step leads, as point 11 tells it."""
    leaves, _, follows = machine(word)
    place, state = pair
    found = set()
    for _, start, name, goal in web.ties():
        for letter, here, there in ((name, start, goal), ("^" + name, goal, start)):
            if here == place:
                found |= {(there, later) for later in follows[state] if fits(leaves[later - 1], letter)}
    return found


def levels_of(web, word, start):
    told = {(start, 0): 0}
    level = 0
    while level in told.values():
        for pair in [pair for pair in told if told[pair] == level]:
            for later in pairs_behind(web, word, pair):
                told.setdefault(later, level + 1)
        level += 1
    return [(*pair, told[pair]) for pair in sorted(told)]


class SpelledTest(unittest.TestCase):
    def test_letters(self):
        web = line_web()
        steps = [(0, ON), (2, ON), (3, BACK), (3, ON), (2, BACK), (4, BACK)]
        self.assertEqual(spelled(web, steps), ["a", "b", "^c", "c", "^b", "^a"])
        self.assertEqual(spelled(web, []), [])
        self.assertEqual(spelled(steps=[(3, BACK), (0, ON)], web=web), ["^c", "a"])
        self.assertEqual(steps, [(0, ON), (2, ON), (3, BACK), (3, ON), (2, BACK), (4, BACK)])
        self.assertIsNot(spelled(web, steps), spelled(web, steps))


class WayFaultTest(unittest.TestCase):
    def setUp(self):
        self.web = line_web()
        self.all = ("again", either(ANY, ANYBACK))

    def fault(self, steps, start=0, goal=2, word=None):
        word = self.all if word is None else word
        before = list(steps)
        told = way_fault(self.web, word, steps, start=start, goal=goal)
        self.assertEqual(steps, before)
        return told

    def test_ways_without_fault(self):
        for steps in ([(0, ON), (2, ON)], [(4, ON), (2, ON)], [(0, ON), (4, BACK), (4, ON), (2, ON)],
                      [(0, ON), (2, ON), (3, ON), (3, BACK), (3, ON)], [(0, ON), (0, BACK), (0, ON), (2, ON)]):
            self.assertIsNone(self.fault(steps))
        self.assertIsNone(self.fault([(2, BACK), (0, BACK)], start=2, goal=0))
        for place in (0, 1, 2, 3):
            self.assertIsNone(self.fault([], start=place, goal=place))

    def test_a_tie_that_is_none(self):
        for tie in (1, 5, -1, HUGE, -HUGE):
            for side in (ON, BACK, "", "up"):
                self.assertEqual(self.fault([(tie, side)]), ("tie", 0))
                self.assertEqual(self.fault([(0, ON), (2, ON), (tie, side), (0, ON)]), ("tie", 2))

    def test_a_side_that_is_none(self):
        for side in NO_SIDES:
            self.assertEqual(self.fault([(0, side)]), ("side", 0))
            self.assertEqual(self.fault([(2, side)]), ("side", 0))
            self.assertEqual(self.fault([(0, ON), (0, side), (9, ON)]), ("side", 1))

    def test_a_step_that_begins_elsewhere(self):
        self.assertEqual(self.fault([(2, ON)]), ("place", 0))
        self.assertEqual(self.fault([(0, BACK)]), ("place", 0))
        self.assertEqual(self.fault([(0, ON), (2, BACK)]), ("place", 1))
        self.assertEqual(self.fault([(0, ON), (4, ON)]), ("place", 1))
        self.assertEqual(self.fault([(0, ON), (2, ON), (0, ON)]), ("place", 2))
        self.assertEqual(self.fault([(0, ON), (2, ON)], start=3), ("place", 0))
        self.assertEqual(self.fault([(3, ON), (0, ON)]), ("place", 0))

    def test_the_first_step_with_a_fault_is_told(self):
        self.assertEqual(self.fault([(2, ON), (9, ON)]), ("place", 0))
        self.assertEqual(self.fault([(2, ON), (0, "up")]), ("place", 0))
        self.assertEqual(self.fault([(2, "up"), (9, ON)]), ("side", 0))
        self.assertEqual(self.fault([(0, ON), (0, ON), (9, ON)], goal=0), ("place", 1))

    def test_a_way_that_ends_elsewhere(self):
        self.assertEqual(self.fault([]), ("goal", 0))
        self.assertEqual(self.fault([(0, ON)]), ("goal", 1))
        self.assertEqual(self.fault([(0, ON), (2, ON), (3, ON)], goal=3), ("goal", 3))
        self.assertEqual(self.fault([(0, ON)], word=NONE), ("goal", 1))

    def test_a_row_that_the_word_does_not_take(self):
        self.assertEqual(self.fault([(0, ON), (2, ON)], word=("then", A, A)), ("word", 2))
        self.assertIsNone(self.fault([(0, ON), (2, ON)], word=("then", A, B)))
        self.assertEqual(self.fault([(0, ON), (2, ON)], word=A), ("word", 2))
        self.assertEqual(self.fault([(3, BACK)], start=2, word=("name", "c")), ("word", 1))
        self.assertIsNone(self.fault([(3, BACK)], start=2, word=("back", "c")))
        self.assertEqual(self.fault([], goal=0, word=A), ("word", 0))
        self.assertEqual(self.fault([], goal=0, word=NONE), ("word", 0))
        self.assertIsNone(self.fault([], goal=0, word=EMPTY))

    def test_all_walks_of_chosen_webs(self):
        for seed in range(12):
            chooser = Chooser(seed)
            web = chosen_web(chooser, 4, 5)
            for word in chosen_words(chooser, 4):
                for start in web.places():
                    for steps, row, place in walks(web, start, 2):
                        for goal in web.places():
                            told = way_fault(web, word, steps, start=start, goal=goal)
                            fault = ("goal", 2) if goal != place else None if spells(word, row) else ("word", 2)
                            self.assertEqual(told, fault)

    def test_long_lists(self):
        steps = [(3, side) for side in (ON, BACK) * 200]
        self.assertIsNone(self.fault(steps, start=2))
        self.assertEqual(self.fault(steps[:399] + [(3, "")], start=2), ("side", 399))
        word = ("again", balanced([("name", "c"), ANYBACK] * 20, ("or",)))
        self.assertIsNone(self.fault(steps, start=2, word=word))
        self.assertEqual(self.fault(steps, start=2, word=then(word, A)), ("word", 400))


class CutFaultTest(unittest.TestCase):
    def setUp(self):
        self.web = line_web()
        self.word = ("then", A, ("again", ("name", "c")))
        # States 1 and 2 are both ends.
        self.cut = [(0, 0), (1, 1)]

    def fault(self, pairs, start=0, goal=2, word=None):
        word = self.word if word is None else word
        before = list(pairs)
        told = cut_fault(self.web, word, pairs, start=start, goal=goal)
        self.assertEqual(pairs, before)
        return told

    def test_cuts_without_fault(self):
        self.assertIsNone(self.fault(self.cut))
        self.assertIsNone(self.fault(self.cut + [(1, 2), (3, 0), (3, 1), (3, 2)]))
        self.assertIsNone(self.fault(self.cut + [(2, 0)]))
        self.assertIsNone(self.fault([(3, 0)], start=3, goal=0))
        self.assertIsNone(self.fault([(0, 0)], goal=0, word=NONE))

    def test_pairs_that_are_none_or_do_not_rise(self):
        for pair in ((4, 0), (5, 0), (-1, 0), (HUGE, 1), (-HUGE, 0)):
            self.assertEqual(self.fault([pair]), ("order", 0))
            self.assertEqual(self.fault(sorted(self.cut + [pair])), ("order", 0 if pair[0] < 0 else 2))
        for state in NO_NUMBERS:
            self.assertEqual(self.fault([(0, state)]), ("order", 0))
            self.assertEqual(self.fault([(0, 0), (1, 1), (3, state)]), ("order", 2))
        self.assertEqual(self.fault([(0, 0), (0, 0), (1, 1)]), ("order", 1))
        self.assertEqual(self.fault([(1, 1), (0, 0)]), ("order", 1))
        self.assertEqual(self.fault([(0, 0), (1, 2), (1, 1)]), ("order", 2))
        self.assertEqual(self.fault([(0, 0), (3, 0), (1, 1)]), ("order", 2))
        self.assertEqual(self.fault([(0, 0), (9, 9), (1, 9)]), ("order", 1))

    def test_order_ahead_of_all_else(self):
        self.assertEqual(self.fault([(2, 1), (4, 0)]), ("order", 1))
        self.assertEqual(self.fault([(0, 0), (2, 1), (2, 1)]), ("order", 2))

    def test_the_start_is_lacked(self):
        for pairs in ([], [(0, 1)], [(1, 1)], [(1, 0), (2, 1)], [(0, 1), (2, 1)]):
            self.assertEqual(self.fault(pairs), ("start",))
        self.assertEqual(self.fault(self.cut, start=1), ("start",))

    def test_a_pair_of_the_goal_and_an_end(self):
        self.assertEqual(self.fault(self.cut, goal=1), ("goal", 1))
        self.assertEqual(self.fault([(0, 0), (0, 2), (1, 1), (1, 2)], goal=1), ("goal", 2))
        self.assertEqual(self.fault([(0, 0), (2, 1)]), ("goal", 1))
        self.assertEqual(self.fault([(0, 0)], goal=0, word=EMPTY), ("goal", 0))

    def test_a_pair_that_a_step_leaves(self):
        self.assertEqual(self.fault([(0, 0)]), ("step", 0))
        self.assertEqual(self.fault([(0, 0), (1, 0)]), ("step", 0))
        self.assertEqual(self.fault([(0, 0), (1, 1)], word=A), None)
        self.assertEqual(self.fault([(0, 0), (1, 1)], word=("then", A, ("then", B, B))), ("step", 1))
        self.assertEqual(self.fault([(0, 0), (1, 1)], word=("then", A, ("then", BACK_A, B))), ("step", 1))
        self.assertEqual(self.fault([(0, 0), (0, 2), (1, 1)], word=("then", A, ("then", BACK_A, B))), None)

    def test_against_the_words_of_the_point(self):
        for seed in range(150):
            chooser = Chooser(seed)
            web = chosen_web(chooser, 3, 4)
            word = chooser.word(3, 4)
            states = range(len(machine(word)[0]) + 1)
            places = web.places()
            start, goal = chooser.of(places), chooser.of(places)
            kept = chooser.below(4)
            pairs = [(place, state) for place in places for state in states if chooser.below(4) >= kept]
            pairs = sorted({*pairs, *[pair[:2] for pair in levels(web, word, start=start)][:chooser.below(9)]})
            self.assertEqual(
                cut_fault(web, word, pairs, start=start, goal=goal), self.plainly(web, word, pairs, start, goal))

    def plainly(self, web, word, pairs, start, goal):
        """The first fault of rising pairs of the web and the word."""
        if (start, 0) not in pairs:
            return ("start",)
        for k, pair in enumerate(pairs):
            if pair[0] == goal and pair[1] in machine(word)[1]:
                return ("goal", k)
        for k, pair in enumerate(pairs):
            if not pairs_behind(web, word, pair) <= set(pairs):
                return ("step", k)
        return None


class ToldTest(unittest.TestCase):
    """Ways, cuts, levels and goals told of chosen webs and words."""

    def cases(self, seeds, places=4, ties=6):
        for seed in range(seeds):
            chooser = Chooser(seed)
            web = chosen_web(chooser, places, 1 + chooser.below(ties))
            for word in chosen_words(chooser, 4, leaves=6, deep=5):
                yield web, word

    def test_ways_and_cuts(self):
        told = {"way": 0, "cut": 0}
        for web, word in self.cases(60):
            before = state_of(web)
            for start in web.places():
                least = least_steps(web, word, start)
                for goal in web.places():
                    for ask in (any_way, shortest_way):
                        kind, row = ask(web, word, start=start, goal=goal)
                        self.assertEqual(kind, "way" if goal in least else "cut")
                        self.assertIs(type(row), list)
                        told[kind] += 1
                        if kind == "way":
                            self.assertTrue(way_of(web, word, row, start, goal))
                            self.assertIsNone(way_fault(web, word, row, start=start, goal=goal))
                            if ask is shortest_way:
                                self.assertEqual(len(row), least[goal])
                        else:
                            self.assertIsNone(cut_fault(web, word, row, start=start, goal=goal))
                            if ask is shortest_way:
                                pairs = [pair[:2] for pair in levels(web, word, start=start)]
                                self.assertEqual(row, pairs)
            self.assertEqual(state_of(web), before)
        self.assertGreater(min(told.values()), 400)

    def test_levels(self):
        for web, word in self.cases(60):
            for start in web.places():
                self.assertEqual(levels(web, word, start=start), levels_of(web, word, start))

    def test_reached_and_answers(self):
        for web, word in self.cases(60):
            pairs = []
            for start in web.places():
                goals = sorted(least_steps(web, word, start))
                self.assertEqual(reached(web, word, start=start), goals)
                pairs += [(start, goal) for goal in goals]
            self.assertEqual(answers(web, word), pairs)

    def test_all_small_words_in_one_web(self):
        web = web_of(3, [(0, "a", 1), (1, "b", 1), (1, "a", 2), (2, "ab", 0)])
        for word in words_up_to(4, (A, B, BACK_A, ANYBACK, EMPTY, NONE)):
            pairs = [(start, goal) for start in (0, 1, 2) for goal in sorted(least_steps(web, word, start))]
            self.assertEqual(answers(web, word), pairs)


class EdgeTest(unittest.TestCase):
    def test_a_way_of_no_steps(self):
        web = web_of(2, [(0, "a", 0)])
        for word in (EMPTY, ("again", A), ("maybe", B)):
            self.assertEqual(any_way(web, word, start=1, goal=1), ("way", []))
            self.assertEqual(shortest_way(web, word, start=0, goal=0), ("way", []))
        self.assertEqual(shortest_way(web, A, start=0, goal=0), ("way", [(0, ON)]))
        self.assertEqual(shortest_way(web, BACK_A, start=0, goal=0), ("way", [(0, BACK)]))
        self.assertEqual(shortest_way(web, EMPTY, start=0, goal=1), ("cut", [(0, 0)]))

    def test_a_word_that_spells_no_row(self):
        web = web_of(2, [(0, "a", 1)])
        for word in (NONE, ("more", NONE), ("then", A, NONE), ("or", NONE, ("then", NONE, A))):
            for ask in (any_way, shortest_way):
                self.assertEqual(ask(web, word, start=0, goal=1), ("cut", [(0, 0)]))
            self.assertEqual(levels(web, word), [(0, 0, 0)])
            self.assertEqual(reached(web, word), [])
            self.assertEqual(answers(web, word), [])

    def test_no_step_leads_back_to_a_start_of_the_word(self):
        web = web_of(1, [(0, "a", 0)])
        self.assertEqual(levels(web, ("again", A)), [(0, 0, 0), (0, 1, 1)])
        self.assertEqual(levels(web, ("again", EMPTY)), [(0, 0, 0)])

    def test_the_start_by_default(self):
        web = line_web()
        word = ("again", ANY)
        self.assertEqual(levels(web, word), [(0, 0, 0), (1, 1, 1), (2, 1, 2)])
        self.assertEqual(levels(web, word), levels(web, word, start=0))
        self.assertEqual(reached(web, word), [0, 1, 2])
        self.assertEqual(reached(web, ANYBACK, start=2), [1, 2])
        self.assertEqual(answers(web, ("then", ANY, ANY)), [(0, 2), (1, 2), (2, 2)])

    def test_a_web_of_nothing(self):
        web = web_of(0, [])
        self.assertEqual(answers(web, EMPTY), [])
        web = web_of(1, [])
        self.assertEqual(answers(web, EMPTY), [(0, 0)])
        self.assertEqual(answers(web, A), [])
        self.assertEqual(levels(web, A), [(0, 0, 0)])

    def test_goals_rise_however_they_are_found(self):
        web = web_of(20, [(0, "a", 17), (17, "a", 8), (8, "a", 1), (0, "a", 16)])
        self.assertEqual(reached(web, ("again", A)), [0, 1, 8, 16, 17])
        self.assertEqual(reached(web, ("more", A)), [1, 8, 16, 17])
        self.assertEqual(reached(web, ("more", A), start=17), [1, 8])
        self.assertEqual(answers(web, ("more", A))[:5], [(0, 1), (0, 8), (0, 16), (0, 17), (8, 1)])
        self.assertEqual(levels(web, A, start=0), [(0, 0, 0), (16, 1, 1), (17, 1, 1)])

    def test_a_shortest_way_that_is_not_the_first_one(self):
        web = web_of(4, [(0, "a", 1), (1, "a", 2), (2, "a", 3), (0, "b", 3)])
        word = ("more", ("or", A, B))
        self.assertEqual(shortest_way(web, word, start=0, goal=3), ("way", [(3, ON)]))
        self.assertEqual(shortest_way(web, ("more", A), start=0, goal=3), ("way", [(0, ON), (1, ON), (2, ON)]))
        self.assertEqual(shortest_way(web, ("more", ANYBACK), start=3, goal=0), ("way", [(3, BACK)]))

    def test_a_great_web_and_a_great_word(self):
        chooser = Chooser(5)
        names = ["a", "b", "abcdefgh", "zz"]
        web = web_of(60, [(chooser.below(60), chooser.of(names), chooser.below(60)) for _ in range(200)])
        word = ("then", ("again", balanced([ANY, ANYBACK, A, BACK_A] * 9, ("or",))), then(A, B, ("name", "none")))
        kind, pairs = any_way(web, word, start=0, goal=1)
        self.assertEqual(kind, "cut")
        self.assertIsNone(cut_fault(web, word, pairs, start=0, goal=1))
        self.assertEqual(pairs, [pair[:2] for pair in levels(web, word)])
        word = ("then", ("again", balanced([ANY, ANYBACK] * 18, ("or",))), then(A, B))
        for goal in reached(web, word)[:5]:
            _, steps = shortest_way(web, word, start=0, goal=goal)
            self.assertIsNone(way_fault(web, word, steps, start=0, goal=goal))


class RefusalTest(unittest.TestCase):
    def test_words_that_are_none(self):
        web = line_web()
        for word in NO_WORDS:
            for place in (0, 4, HUGE):
                for ask in (any_way, shortest_way):
                    with self.assertRaises(NotFormed):
                        ask(web, word, start=place, goal=0)
                    with self.assertRaises(NotFormed):
                        ask(web, word, start=0, goal=place)
                for ask in (levels, reached):
                    with self.assertRaises(NotFormed):
                        ask(web, word, start=place)
            with self.assertRaises(NotFormed):
                answers(web, word)
            with self.assertRaises(NotFormed):
                answers(web_of(0, []), word)

    def test_places_that_are_none(self):
        web = line_web()
        for place in (4, 5, -1, HUGE, -HUGE):
            for word in (A, EMPTY, NONE):
                for ask in (any_way, shortest_way):
                    for start, goal in ((place, 0), (0, place), (place, place)):
                        with self.assertRaises(NoPlace):
                            ask(web, word, start=start, goal=goal)
                for ask in (levels, reached):
                    with self.assertRaises(NoPlace):
                        ask(web, word, start=place)
        for ask in (levels, reached):
            with self.assertRaises(NoPlace):
                ask(web_of(2, [], drops=[0]), EMPTY)

    def test_form_alone_tells_a_word(self):
        web = line_web()
        word = deepened(balanced([A] * 60, ("or",)), 22, "maybe")
        self.assertEqual(shortest_way(web, word, start=0, goal=1)[0], "way")
        self.assertEqual(reached(web, word), [0, 1])


class CallTest(unittest.TestCase):
    def test_behind_a_star_by_name_alone(self):
        web = line_web()
        for call in (
            lambda: any_way(web, A, 0, 1), lambda: shortest_way(web, A, 0, 1), lambda: levels(web, A, 0),
            lambda: reached(web, A, 0), lambda: way_fault(web, A, [], 0, 1), lambda: cut_fault(web, A, [], 0, 1),
        ):
            self.assertRaises(TypeError, call)

    def test_by_name_in_any_order(self):
        web = line_web()
        told = any_way(goal=1, word=A, start=0, web=web)
        self.assertEqual(told[0], "way")
        self.assertIsNone(way_fault(start=0, steps=told[1], web=web, goal=1, word=A))
        self.assertEqual(shortest_way(web, goal=1, start=3, word=A), ("cut", [(3, 0)]))
        self.assertIsNone(cut_fault(goal=1, start=3, pairs=[(3, 0)], word=A, web=web))
        self.assertEqual(levels(start=3, word=A, web=web), [(3, 0, 0)])
        self.assertEqual(reached(start=1, word=B, web=web), [2])
        self.assertEqual(answers(word=B, web=web), [(1, 2)])

    def test_lists_are_the_askers_own(self):
        web = line_web()
        word = ("again", ANY)
        told = state_of(web)
        for ask in (
            lambda: any_way(web, word, start=0, goal=2)[1], lambda: any_way(web, word, start=0, goal=3)[1],
            lambda: shortest_way(web, word, start=0, goal=2)[1], lambda: shortest_way(web, word, start=0, goal=3)[1],
            lambda: levels(web, word), lambda: reached(web, word), lambda: answers(web, word),
        ):
            first, second = ask(), ask()
            self.assertIsNot(first, second)
            first.clear()
            self.assertEqual(ask(), second)
            self.assertTrue(second)
        self.assertEqual(state_of(web), told)


if __name__ == "__main__":
    unittest.main()
