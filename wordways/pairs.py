"""Steps of a web, and the pairs of a place and a state that they lead between."""

from wordways.errors import NoPlace, NotFormed
from wordways.machines import leads_by, machine
from wordways.words import formed


def steps_of(web):
    """Tell for each place its steps, rising: (step, place at the other end, letter)."""
    found = {place: [] for place in web.places()}
    for tie, start, name, goal in web.ties():
        # As texts are compared, back is less than on.
        found[goal].append(((tie, "back"), start, "^" + name))
        found[start].append(((tie, "on"), goal, name))
    return found


class Pairs:
    """The pairs of a web's places and the states of a word's machine."""

    def __init__(self, web, word):
        net = machine(word)
        self.states = len(net[2])
        self.ends = net[1]
        self.steps = steps_of(web)
        letters = {letter: True for row in self.steps.values() for _, _, letter in row}
        self.leads = {letter: leads_by(net, letter) for letter in letters}

    def behind(self, pair):
        """Tell the steps from a pair, each with the pair to which it leads."""
        place, state = pair
        return [
            (step, (other, later))
            for step, other, letter in self.steps[place]
            for later in self.leads[letter][state]
        ]


def asked_pairs(web, word, places):
    """Tell the pairs of what is asked, or refuse the word, then a place."""
    if not formed(word):
        raise NotFormed("this is no word")
    known = web.places()
    for place in places:
        if place not in known:
            raise NoPlace(f"place {place} is not there")
    return Pairs(web, word)


def found_from(graph, first):
    """Tell all to which steps lead from the first, nearest ones ahead.

    Each has its level, the last step of a shortest way to it, and what stands
    ahead of that step.
    """
    found = {first: (0, None, None)}
    level = [first]
    while level:
        level = next_found(graph, level, found)
    return found


def next_found(graph, level, found):
    """Tell what is one step behind a level and was not found, and keep it."""
    fresh = []
    for one in level:
        for step, later in graph.behind(one):
            if later not in found:
                found[later] = (found[one][0] + 1, step, one)
                fresh.append(later)
    return fresh


def way_to(found, last):
    """Tell the steps by which this was found."""
    steps = []
    level, step, ahead = found[last]
    while level > 0:
        steps.append(step)
        level, step, ahead = found[ahead]
    return steps[::-1]
