"""Points 2 and 3 over the whole program: what it tells is handed in again, and all parts agree."""

import copy
import unittest

from webmaking import chosen_web, chosen_words, least_steps, state_of, way_of, ways_of
from wordmaking import ANY, Chooser, spells
from wordways.counts import count_all, count_ways, number_of, way_at
from wordways.hubs import Hubs
from wordways.machines import machine, parted, shortest_row, takes, within
from wordways.replies import reply
from wordways.store import Store
from wordways.texts import read_web, web_text
from wordways.trails import bare_way, trail
from wordways.ways import (
    answers, any_way, cut_fault, levels, reached, shortest_way, spelled, way_fault,
)
from wordways.words import leaves_of
from wordways.wordtexts import read, shown

GREAT = 10 ** 50 - 1000


def moved(web):
    """The same web with great numbers and gaps, by a text; and how each number is told there."""
    places = {place: GREAT + 3 * k for k, place in enumerate(web.places())}
    ties = {one[0]: GREAT + 7 * k for k, one in enumerate(web.ties())}
    rows = [f"place {place}" for place in places.values()]
    rows += [f"tie {ties[tie]} {places[start]} {name} {places[goal]}" for tie, start, name, goal in web.ties()]
    return read_web("\n".join(rows)), places, ties


def cases(seeds, places=4, ties=6):
    for seed in range(seeds):
        chooser = Chooser(seed)
        web = chosen_web(chooser, 1 + chooser.below(places), chooser.below(ties + 1))
        for word in chosen_words(chooser, 3, 5, 4):
            yield chooser, web, word


class MovedTest(unittest.TestCase):
    """Nothing hangs on which numbers places and ties have, but their order."""

    def test_all_asks(self):
        for _, web, word in cases(50):
            great, places, ties = moved(web)
            self.assertEqual(
                answers(great, word), [(places[start], places[goal]) for start, goal in answers(web, word)])
            for start in web.places():
                there = {"start": places[start]}
                self.assertEqual(
                    reached(great, word, **there), [places[goal] for goal in reached(web, word, start=start)])
                self.assertEqual(
                    levels(great, word, **there),
                    [(places[place], *rest) for place, *rest in levels(web, word, start=start)])
                for goal in web.places():
                    self.check_ways(web, great, word, {"start": start, "goal": goal}, places, ties)

    def check_ways(self, web, great, word, ends, places, ties):
        there = {name: places[place] for name, place in ends.items()}
        for ask in (trail, bare_way):
            steps = ask(web, word, **ends)
            told = None if steps is None else [(ties[tie], side) for tie, side in steps]
            self.assertEqual(ask(great, word, **there), told)
        for ask in (any_way, shortest_way):
            kind, told = ask(great, word, **there)
            self.assertEqual(kind, ask(web, word, **ends)[0])
            self.assertIsNone((way_fault if kind == "way" else cut_fault)(great, word, told, **there))
        many = count_ways(web, word, length=3, **ends)
        self.assertEqual(count_ways(great, word, length=3, **there), many)
        for number in range(min(many, 3)):
            steps = way_at(great, word, number, length=3, **there)
            here = way_at(web, word, number, length=3, **ends)
            self.assertEqual(steps, [(ties[tie], side) for tie, side in here])
            self.assertEqual(number_of(great, word, steps, **there), number)
        told = count_all(great, word, **there)
        self.assertEqual(told[0], count_all(web, word, **ends)[0])
        if told[0] == "endless":
            for times in range(3):
                self.assertIsNone(way_fault(great, word, told[1] + told[2] * times + told[3], **there))
        else:
            self.assertEqual(told, count_all(web, word, **ends))

    def test_next_numbers_and_marks(self):
        for _, web, _ in cases(20):
            great, places, _ = moved(web)
            told = state_of(great)
            mark = great.mark()
            self.assertEqual(great.place(), max(places.values()) + 1)
            great.undo(mark)
            self.assertEqual(state_of(great), told)
            self.assertEqual(state_of(read_web(web_text(great))), told)


class AgreeTest(unittest.TestCase):
    """All kinds of ways, counts and answers tell of the same ways."""

    def test_ways_counts_and_answers(self):
        for _, web, word in cases(40):
            before, given = state_of(web), copy.deepcopy(word)
            pairs = answers(web, word)
            for start in web.places():
                least = least_steps(web, word, start)
                self.assertEqual(reached(web, word, start=start), sorted(least))
                for goal in web.places():
                    self.assertEqual((start, goal) in pairs, goal in least)
                    self.check(web, word, start, goal, least.get(goal))
            self.assertEqual((state_of(web), word), (before, given))

    def check(self, web, word, start, goal, least):
        ends = {"start": start, "goal": goal}
        kind, told = shortest_way(web, word, **ends)
        if least is None:
            self.assertEqual(kind, "cut")
            self.assertEqual(count_all(web, word, **ends), ("count", 0))
            self.assertIsNone(trail(web, word, **ends))
            self.assertIsNone(bare_way(web, word, **ends))
            return
        self.assertEqual((kind, len(told)), ("way", least))
        self.assertTrue(way_of(web, word, told, start, goal))
        self.assertTrue(takes(word, spelled(web, told)))
        for length in range(min(least, 4)):
            self.assertEqual(count_ways(web, word, length=length, **ends), 0)
        if least < 4:
            ways = ways_of(web, word, start, goal, least)
            self.assertEqual(number_of(web, word, told, **ends), ways.index(told))
        for ask in (trail, bare_way):
            steps = ask(web, word, **ends)
            if steps is not None:
                self.assertGreaterEqual(len(steps), least)
                self.assertTrue(way_of(web, word, steps, start, goal))

    def test_words_and_rows(self):
        for _, web, word in cases(60):
            self.assertEqual(read(shown(word)), word)
            self.assertEqual(machine(word)[0], leaves_of(word))
            row = shortest_row(word)
            self.assertTrue(row is None or spells(word, tuple(row)))
            other = ("again", ANY)
            for one, two in ((word, other), (other, word)):
                row = within(one, two)
                self.assertTrue(row is None or spells(one, row) and not spells(two, row))
            self.assertEqual(parted(word, other) is None, within(word, other) is None and within(other, word) is None)

    def test_hubs_and_answers(self):
        for seed in range(30):
            chooser = Chooser(seed)
            web = chosen_web(chooser, 1 + chooser.below(6), chooser.below(10))
            hubs = Hubs()
            store = Store()
            ask = store.keep(("again", ANY))
            for place in web.places():
                while place not in hubs.places():
                    hubs.place()
                    store.place()
                for fresh in hubs.places():
                    if fresh not in web.places():
                        hubs.drop(fresh)
                        store.drop(fresh)
            for _, start, name, goal in web.ties():
                hubs.tie(start, name, goal)
                store.tie(start, name, goal)
                pairs = [(p, q) for p in hubs.places() for q in hubs.places() if hubs.reaches(p, q)]
                self.assertEqual(pairs, store.answers_of(ask))
                self.assertEqual(pairs, [
                    (p, q) for p in hubs.places() for q in hubs.places()
                    if set(hubs.out_hubs(p)) & set(hubs.in_hubs(q))])

    def test_replies_and_stores(self):
        for chooser, web, word in cases(30):
            store = Store()
            for _ in range(max(web.places()) + 1):
                store.place()
            for _, start, name, goal in web.ties():
                store.tie(start, name, goal)
            text = web_text(store)
            start, goal = chooser.of(store.places()), chooser.of(store.places())
            for kind in ("any", "shortest", "trail", "bare"):
                told = store.ask(kind, word, start=start, goal=goal)
                there = told is not None and told[:1] != ("cut",)
                answer = reply(text, f"{kind} {shown(word)} from {start} to {goal}")
                self.assertEqual(answer == "none", not there)


class AloneTest(unittest.TestCase):
    """Nothing that is handed in is kept or changed."""

    def test_steps_and_pairs_handed_in(self):
        for _, web, word in cases(30):
            for start in web.places():
                for goal in web.places():
                    ends = {"start": start, "goal": goal}
                    kind, told = any_way(web, word, **ends)
                    given = list(told)
                    (way_fault if kind == "way" else cut_fault)(web, word, told, **ends)
                    if kind == "way" and len(told) <= 40:
                        number_of(web, word, told, **ends)
                        spelled(web, told)
                    self.assertEqual(told, given)
                    told.append(("", ""))
                    self.assertEqual(any_way(web, word, **ends)[1], given)

    def test_a_web_handed_to_a_text(self):
        web = read_web("place 0\nplace 4\ntie 2 0 a 4")
        text = web_text(web)
        web.cut(2)
        self.assertEqual(web_text(read_web(text)), text)
        self.assertEqual(web_text(web), "place 0\nplace 4")
        self.assertEqual((web.tie(4, "a", 4), web.place()), (3, 5))


if __name__ == "__main__":
    unittest.main()
