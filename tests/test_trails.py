"""Point 14: trails and bare ways."""

import unittest

from webmaking import HUGE, NO_WORDS, chosen_web, chosen_words, state_of, steps_at, web_of
from wordmaking import A, ANY, ANYBACK, B, BACK_A, C, EMPTY, NONE, Chooser, balanced, deepened, either, spells, then
from wordways.errors import NoPlace, NotFormed
from wordways.trails import bare_way, trail
from wordways.ways import shortest_way, way_fault

ON, BACK = "on", "back"
ALL = ("again", either(ANY, ANYBACK))


def walks_without_twice(web, start, by_places):
    """All lists of steps from a place that use nothing twice, with row and goal."""
    found = []
    level = [([], (), start, [start])]
    while level:
        found += level
        level = [
            (steps + [step], row + (letter,), other, come + [other])
            for steps, row, place, come in level for step, letter, other in steps_at(web, place)
            if (other not in come if by_places else step[0] not in [tie for tie, _ in steps])
        ]
    return [walk[:3] for walk in found]


def first_of(walks, word, goal):
    """The first of the shortest of these walks that the word spells and that end at the goal."""
    ways = [(len(steps), steps) for steps, row, place in walks if place == goal and spells(word, row)]
    return min(ways)[1] if ways else None


class ChosenTest(unittest.TestCase):
    def check(self, ask, by_places, seeds, places, ties):
        """How many ways told are longer than the shortest of all ways."""
        told = {True: 0, False: 0}
        longer = 0
        for seed in range(seeds):
            chooser = Chooser(seed)
            web = chosen_web(chooser, chooser.of(places), chooser.of(ties), "abc")
            words = chosen_words(chooser, 6, leaves=6, deep=5) + [then(ALL, B, ALL, A), then(C, ALL, B)]
            before = state_of(web)
            for start in web.places():
                walks = walks_without_twice(web, start, by_places)
                for word in words:
                    for goal in web.places():
                        steps = ask(web, word, start=start, goal=goal)
                        self.assertEqual(steps, first_of(walks, word, goal))
                        told[steps is None] += 1
                        shortest = shortest_way(web, word, start=start, goal=goal)[1]
                        longer += steps is not None and len(steps) > len(shortest)
            self.assertEqual(state_of(web), before)
        self.assertGreater(min(told.values()), 300)
        return longer

    def test_trails(self):
        longer = self.check(trail, False, 60, (1, 2, 3, 4), (1, 4, 5, 6))
        self.assertGreater(longer, 5)

    def test_bare_ways(self):
        self.check(bare_way, True, 60, (2, 4, 5), (3, 6, 9))


class TrailTest(unittest.TestCase):
    def test_a_trail_goes_no_tie_twice(self):
        web = web_of(2, [(0, "a", 1), (1, "b", 0)])
        self.assertEqual(trail(web, then(A, B, A), start=0, goal=1), None)
        self.assertEqual(trail(web, then(A, B), start=0, goal=0), [(0, ON), (1, ON)])
        self.assertEqual(trail(web, then(A, BACK_A), start=0, goal=0), None)
        self.assertEqual(trail(web_of(1, [(0, "a", 0)]), then(A, BACK_A), start=0, goal=0), None)
        self.assertEqual(trail(web_of(1, [(0, "a", 0)] * 2), then(A, BACK_A), start=0, goal=0), [(0, ON), (1, BACK)])

    def test_a_trail_may_come_to_a_place_again(self):
        web = web_of(3, [(0, "a", 1), (1, "a", 2), (2, "a", 0), (0, "b", 1)])
        self.assertEqual(
            trail(web, then(A, A, A, B), start=0, goal=1), [(0, ON), (1, ON), (2, ON), (3, ON)])
        self.assertEqual(bare_way(web, then(A, A, A, B), start=0, goal=1), None)

    def test_the_first_of_several(self):
        web = web_of(2, [(1, "b", 0), (0, "a", 1), (0, "a", 1)])
        self.assertEqual(trail(web, ALL, start=0, goal=1), [(0, BACK)])
        self.assertEqual(trail(web, A, start=0, goal=1), [(1, ON)])
        self.assertEqual(trail(web, then(A, BACK_A), start=0, goal=0), [(1, ON), (2, BACK)])
        web = web_of(1, [(0, "a", 0)] * 3)
        self.assertEqual(trail(web, then(ANYBACK, ANY), start=0, goal=0), [(0, BACK), (1, ON)])
        either_side = either(ANY, ANYBACK)
        self.assertEqual(
            trail(web, then(either_side, either_side, either_side), start=0, goal=0),
            [(0, BACK), (1, BACK), (2, BACK)])

    def test_the_fewest_steps_ahead_of_the_first(self):
        web = web_of(3, [(0, "a", 1), (1, "a", 2), (0, "a", 2)])
        self.assertEqual(trail(web, ("more", A), start=0, goal=2), [(2, ON)])
        self.assertEqual(bare_way(web, ("more", A), start=0, goal=2), [(2, ON)])

    def test_later_ways_to_a_place_are_not_lost(self):
        # The first way to place 1 uses the tie up that is needed behind it.
        web = web_of(3, [(0, "a", 1), (0, "a", 1), (1, "b", 0), (0, "c", 2)])
        self.assertEqual(
            trail(web, then(A, B, A, ("back", "b"), ("name", "c")), start=0, goal=2), None)
        self.assertEqual(
            trail(web, then(A, B, A, BACK_A), start=0, goal=0), None)
        web = web_of(3, [(0, "a", 1), (0, "a", 1), (1, "a", 0), (0, "b", 2)])
        self.assertEqual(
            trail(web, then(A, ANYBACK, ANYBACK, B), start=0, goal=2), None)
        self.assertEqual(
            trail(web, then(ANYBACK, ANYBACK, B), start=0, goal=2), [(2, BACK), (0, BACK), (3, ON)])

    def test_eight_ties(self):
        web = web_of(2, [(0, "abcdefgh"[k], 0) for k in range(7)] + [(0, "h", 1)])
        word = then(*[("name", sign) for sign in "gfedcbah"])
        self.assertEqual(
            trail(web, word, start=0, goal=1), [(k, ON) for k in (6, 5, 4, 3, 2, 1, 0, 7)])
        word = then(*[either(ANY, ANYBACK)] * 8)
        self.assertEqual(trail(web, word, start=0, goal=1), [(k, BACK) for k in range(7)] + [(7, ON)])
        self.assertEqual(trail(web, then(*[either(ANY, ANYBACK)] * 9), start=0, goal=1), None)
        web = web_of(1, [(0, "a", 0)] * 8)
        word = then(("again", balanced([ANY, ANYBACK, A, BACK_A] * 9, ("or",))), B)
        self.assertEqual(trail(web, word, start=0, goal=0), None)

    def test_eight_ties_and_sixty_places(self):
        web = web_of(60, [(7 * k, "a", 7 * k + 7) for k in range(8)])
        self.assertEqual(trail(web, ("again", A), start=0, goal=56), [(k, ON) for k in range(8)])
        self.assertEqual(trail(web, ("again", ANYBACK), start=56, goal=0), [(k, BACK) for k in range(7, -1, -1)])
        self.assertEqual(trail(web, ("again", A), start=0, goal=55), None)


class BareTest(unittest.TestCase):
    def test_a_bare_way_comes_to_no_place_twice(self):
        web = web_of(3, [(0, "a", 1), (1, "a", 0), (0, "a", 0), (1, "b", 2)])
        self.assertEqual(bare_way(web, A, start=0, goal=0), None)
        self.assertEqual(bare_way(web, then(A, A), start=0, goal=0), None)
        self.assertEqual(bare_way(web, ("again", A), start=0, goal=0), [])
        self.assertEqual(bare_way(web, then(A, A, A, B), start=0, goal=2), None)
        self.assertEqual(bare_way(web, then(("again", A), B), start=0, goal=2), [(0, ON), (3, ON)])
        self.assertEqual(trail(web, then(A, A, B), start=0, goal=2), [(2, ON), (0, ON), (3, ON)])
        self.assertEqual(bare_way(web, then(BACK_A, B), start=0, goal=2), [(1, BACK), (3, ON)])

    def test_a_bare_way_longer_than_the_shortest(self):
        web = web_of(4, [(0, "a", 0), (0, "b", 3), (0, "a", 1), (1, "c", 2), (2, "b", 3), (2, "b", 3)])
        word = then(A, ("again", C), B)
        self.assertEqual(shortest_way(web, word, start=0, goal=3), ("way", [(0, ON), (1, ON)]))
        self.assertEqual(trail(web, word, start=0, goal=3), [(0, ON), (1, ON)])
        self.assertEqual(bare_way(web, word, start=0, goal=3), [(2, ON), (3, ON), (4, ON)])
        word = then(A, ("again", either(C, B, ANYBACK)))
        self.assertEqual(bare_way(web, word, start=0, goal=3), [(2, ON), (3, ON), (4, ON)])
        self.assertEqual(bare_way(web, word, start=0, goal=2), [(2, ON), (3, ON)])

    def test_seven_places_and_sixteen_ties(self):
        web = web_of(7, [(k, "a", k + 1) for k in range(6)] + [(k, "b", 0) for k in range(6)] + [(0, "a", 0)] * 4)
        self.assertEqual(len(web), 16)
        self.assertEqual(bare_way(web, ("again", A), start=0, goal=6), [(k, ON) for k in range(6)])
        self.assertEqual(bare_way(web, then(*[ANY] * 6), start=0, goal=6), [(k, ON) for k in range(6)])
        self.assertEqual(bare_way(web, then(*[ANY] * 7), start=0, goal=6), None)
        word = then(("again", balanced([ANY, ANYBACK, A, BACK_A] * 9, ("or",))), ("name", "zz"))
        self.assertEqual(bare_way(web, word, start=0, goal=6), None)
        word = then(("back", "b"), ("again", A))
        self.assertEqual(bare_way(web, word, start=0, goal=6), [(11, BACK), (5, ON)])

    def test_every_place_once(self):
        web = web_of(7, [(j, "a", (j + far) % 7) for j in range(7) for far in (1, 3)])
        told = []
        for goal in range(1, 7):
            for word in (then(*[A] * 6), then(*[either(A, BACK_A)] * 6)):
                steps = bare_way(web, word, start=0, goal=goal)
                self.assertEqual(steps, first_of(walks_without_twice(web, 0, True), word, goal))
                if steps is not None:
                    self.assertIsNone(way_fault(web, word, steps, start=0, goal=goal))
                    self.assertEqual(len(steps), 6)
                told.append(steps is None)
        self.assertIn(False, told)


class EdgeTest(unittest.TestCase):
    def test_ways_of_no_steps(self):
        web = web_of(2, [(0, "a", 1)])
        for ask in (trail, bare_way):
            for word in (EMPTY, ("again", A), ("maybe", B)):
                self.assertEqual(ask(web, word, start=1, goal=1), [])
            self.assertEqual(ask(web, EMPTY, start=0, goal=1), None)
            self.assertEqual(ask(web, A, start=0, goal=0), None)

    def test_words_that_spell_no_row(self):
        web = web_of(2, [(0, "a", 1)])
        for ask in (trail, bare_way):
            for word in (NONE, ("then", A, NONE), ("more", NONE)):
                for goal in (0, 1):
                    self.assertEqual(ask(web, word, start=0, goal=goal), None)

    def test_refusals(self):
        web = web_of(3, [(0, "a", 1)], drops=[2])
        for ask in (trail, bare_way):
            for word in NO_WORDS:
                for start, goal in ((0, 1), (2, 0), (0, 2), (HUGE, -HUGE)):
                    with self.assertRaises(NotFormed):
                        ask(web, word, start=start, goal=goal)
            for place in (2, 3, -1, HUGE, -HUGE):
                for word in (A, EMPTY, NONE):
                    for start, goal in ((place, 0), (0, place), (place, place)):
                        with self.assertRaises(NoPlace):
                            ask(web, word, start=start, goal=goal)
            self.assertEqual(ask(web, deepened(balanced([A] * 60, ("or",)), 22, "maybe"), start=0, goal=1), [(0, ON)])

    def test_calls(self):
        web = web_of(2, [(0, "a", 1), (1, "b", 1)])
        for ask in (trail, bare_way):
            self.assertRaises(TypeError, lambda: ask(web, A, 0, 1))
            first, second = ask(goal=1, word=A, start=0, web=web), ask(web, start=0, goal=1, word=A)
            self.assertEqual(first, [(0, ON)])
            first.clear()
            self.assertEqual(second, [(0, ON)])
            none = ask(web, EMPTY, start=0, goal=0)
            none.append(1)
            self.assertEqual(ask(web, EMPTY, start=0, goal=0), [])
            self.assertEqual(state_of(web), ([0, 1], [(0, 0, "a", 1), (1, 1, "b", 1)], [[0], [0, 1]], 2))


if __name__ == "__main__":
    unittest.main()
