"""Spots, by which each way is counted once, and the rings among them."""

from wordways.machines import led_to
from wordways.pairs import found_from, way_to


class Spots:
    """The spots to which steps lead from the start of a word.

    A spot is a place and all states in which one may stand there behind the
    same steps, so each step leads from a spot to just one.
    """

    def __init__(self, graph, start, goal):
        self.graph = graph
        self.goal = goal
        self.first = (start, (0,))
        self.found = found_from(self, self.first)
        self.onward = {spot: self.behind(spot) for spot in self.found}

    def behind(self, spot):
        """Tell the steps from a spot, rising, each with the spot to which it leads."""
        place, states = spot
        steps = []
        for step, other, letter in self.graph.steps[place]:
            later = tuple(led_to(self.graph.leads[letter], states))
            if later:
                steps.append((step, (other, later)))
        return steps

    def is_last(self, spot):
        """Tell whether a way may end at the spot."""
        place, states = spot
        return place == self.goal and any([state in self.graph.ends for state in states])

    def useful(self):
        """Tell, of the spots from which a way may go on to its end, the steps to such spots."""
        ahead = {spot: [] for spot in self.onward}
        for spot in self.onward:
            for _, later in self.onward[spot]:
                ahead[later].append(spot)
        known = {}
        waiting = [spot for spot in self.onward if self.is_last(spot)]
        while waiting:
            spot = waiting.pop()
            if spot not in known:
                known[spot] = True
                waiting.extend(ahead[spot])
        return only_among(known, self.onward)

    def way_from(self, spot):
        """Tell the steps of a shortest way from a spot to the end."""
        found = found_from(self, spot)
        for later in found:
            if self.is_last(later):
                return way_to(found, later)


def only_among(known, onward):
    """Tell the steps onward that lead from one of the known spots to one of them."""
    return {
        spot: [(step, later) for step, later in onward[spot] if later in known]
        for spot in onward if spot in known
    }


def without_end(onward):
    """Tell, of the spots from which steps lead on without end, the steps to such spots."""
    left = {}
    rest = onward
    while len(rest) != len(left):
        left = rest
        rest = {spot: left[spot] for spot in left if left[spot]}
        rest = only_among(rest, rest)
    return left


def ring_among(onward):
    """Tell a ring and a spot on it, where steps lead on from each spot without end."""
    spot = list(onward)[0]
    steps = []
    passed = {}
    while spot not in passed:
        passed[spot] = len(steps)
        step, spot = onward[spot][0]
        steps.append(step)
    return spot, steps[passed[spot]:]
