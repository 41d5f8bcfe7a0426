"""Webs for the tests, and a second, plain way to tell what leads where in them."""

import copy

from wordmaking import LEAVES, bare, rests_of_all, spells
from wordways.errors import Full, NoMark, NoName, NoPlace, NoTie, Tied
from wordways.webs import Web

HUGE = 10 ** 59

NO_WORDS = ((), ("name",), ("name", "A"), ("name", ""), ("any", "a"), ("then", ("any",)), ("or", "a", "b"), "a",
            (("any",),), ("again", ("name", "abcdefghi")), ("none", ()), ("then", ("any",), ("any",), ("any",)))


def web_of(places, ties, cuts=(), drops=()):
    """A web of so many places and of ties (start, name, goal), some taken out again."""
    web = Web()
    for _ in range(places):
        web.place()
    for start, name, goal in ties:
        web.tie(start, name, goal)
    for tie in cuts:
        web.cut(tie)
    for place in drops:
        web.drop(place)
    return web


def chosen_web(chooser, places, ties, names="ab"):
    """A web of at most so many places and ties, numbers left out among them."""
    made = [
        (chooser.below(places), chooser.of(names), chooser.below(places)) for _ in range(ties)]
    cuts = [tie for tie in range(ties) if chooser.below(5) == 0]
    left = {end for tie in range(ties) if tie not in cuts for end in made[tie][::2]}
    drops = [place for place in range(places - 1) if place not in left and chooser.below(2) == 0]
    return web_of(places, made, cuts, drops)


def chosen_words(chooser, many, leaves=4, deep=4, choice=LEAVES):
    return [chooser.word(leaves, deep, choice) for _ in range(many)]


def state_of(web):
    """All that a web tells."""
    return (web.places(), web.ties(), [web.ties_at(place) for place in web.places()], len(web))


def steps_at(web, place):
    """The steps from a place, each with the letter and the place it leads to."""
    found = []
    for tie, start, name, goal in web.ties():
        if start == place:
            found.append(((tie, "on"), name, goal))
        if goal == place:
            found.append(((tie, "back"), "^" + name, start))
    return found


def walks(web, start, length):
    """All lists of so many steps from a place, each with its row and its goal."""
    found = [([], (), start)]
    for _ in range(length):
        found = [
            (steps + [step], row + (letter,), other)
            for steps, row, place in found for step, letter, other in steps_at(web, place)
        ]
    return found


def ways_of(web, word, start, goal, length):
    """All ways of the word of just so many steps, in their order."""
    return sorted(steps for steps, row, place in walks(web, start, length) if place == goal and spells(word, row))


def way_of(web, word, steps, start, goal):
    """Whether these steps are a way of the word."""
    row = []
    for step in steps:
        known = {one: (letter, other) for one, letter, other in steps_at(web, start)}
        if step not in known:
            return False
        row.append(known[step][0])
        start = known[step][1]
    return start == goal and spells(word, row)


def least_steps(web, word, start):
    """Of each place to which a way of the word leads, the fewest steps."""
    level = [(start, frozenset([word]))]
    seen = set(level)
    least = {}
    length = 0
    while level:
        behind = []
        for place, words in level:
            if any(map(bare, words)):
                least.setdefault(place, length)
            for _, letter, other in steps_at(web, place):
                pair = (other, rests_of_all(words, letter))
                if pair not in seen:
                    seen.add(pair)
                    behind.append(pair)
        level = behind
        length += 1
    return least


class Model:
    """A web as plainly as can be: what stands, and copies of all at each mark."""

    def __init__(self, most_places, most_ties):
        self.mosts = (most_places, most_ties)
        self.now = {"places": [], "ties": [], "place": 0, "tie": 0}
        self.marks = []

    def do(self, deed, *worth):
        return getattr(self, "do_" + deed)(*worth)

    def do_place(self):
        if len(self.now["places"]) == self.mosts[0]:
            return Full
        self.now["places"].append(self.now["place"])
        self.now["place"] += 1
        return self.now["place"] - 1

    def do_tie(self, start, name, goal):
        if start not in self.now["places"] or goal not in self.now["places"]:
            return NoPlace
        if name not in ("a", "b", "abcdefgh"):
            return NoName
        if len(self.now["ties"]) == self.mosts[1]:
            return Full
        self.now["ties"].append((self.now["tie"], start, name, goal))
        self.now["tie"] += 1
        return self.now["tie"] - 1

    def do_cut(self, tie):
        for one in self.now["ties"]:
            if one[0] == tie:
                self.now["ties"].remove(one)
                return None
        return NoTie

    def do_drop(self, place):
        if place not in self.now["places"]:
            return NoPlace
        if any(place in one[1::2] for one in self.now["ties"]):
            return Tied
        self.now["places"].remove(place)
        return None

    def do_mark(self):
        self.marks.append(copy.deepcopy(self.now))
        return len(self.marks) - 1

    def do_undo(self, mark):
        if mark not in range(len(self.marks)):
            return NoMark
        self.marks = self.marks[:mark + 1]
        self.now = copy.deepcopy(self.marks[mark])
        return None


def chosen_deed(chooser, model):
    """A deed of a web, done or refused: its word, and what is handed in."""
    places = model.now["place"] + 1
    ties = model.now["tie"] + 1
    return chooser.of((
        ("place",), ("place",), ("mark",),
        ("undo", chooser.below(len(model.marks) + 1)), ("cut", chooser.below(ties)), ("drop", chooser.below(places)),
        *[("tie", chooser.below(places), chooser.of(("a", "b", "abcdefgh", "A")), chooser.below(places))] * 3,
    ))
