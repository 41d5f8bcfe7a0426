"""Hubs: a web with, behind every change, the places by which each reaches another."""

from wordways.errors import NoPlace
from wordways.ways import reached, shortest_way
from wordways.webs import Web

# A place reaches another one by a way of this word.
ONWARD = ("again", ("any",))


class Hubs:
    """A web, and the rising lists of the out hubs and the in hubs of each place."""

    def __init__(self):
        self._web = Web()
        self._outs = {}
        self._ins = {}

    def place(self):
        """Make a place and tell its number."""
        place = self._web.place()
        # No tie is at it, so it reaches itself alone.
        self._outs[place] = [place]
        self._ins[place] = [place]
        return place

    def tie(self, start, name, goal):
        """Make a tie and tell its number."""
        tie = self._web.tie(start, name, goal)
        # The hubs are still those ahead of the tie: where they join its ends,
        # nobody reaches more by it.
        if not self.reaches(start, goal):
            self._renew()
        return tie

    def cut(self, tie):
        """Take a tie out."""
        start, _, goal = self._web.ends_of(tie)
        self._web.cut(tie)
        # Where a way leads round the tie, nobody reaches less without it.
        if goal not in reached(self._web, ONWARD, start=start):
            self._renew()

    def drop(self, place):
        """Take a place out at which no tie is."""
        self._web.drop(place)
        del self._outs[place]
        del self._ins[place]

    def places(self):
        """Tell the places, rising."""
        return self._web.places()

    def ties(self):
        """Tell the ties, rising: (tie, start, name, goal)."""
        return self._web.ties()

    def out_hubs(self, place):
        """Tell, rising, the out hubs of the place."""
        self._need_place(place)
        return list(self._outs[place])

    def in_hubs(self, place):
        """Tell, rising, the in hubs of the place."""
        self._need_place(place)
        return list(self._ins[place])

    def reaches(self, start, goal):
        """Tell whether ties gone on lead from the start to the goal."""
        return self._joining(start, goal) is not None

    def why(self, start, goal):
        """Tell ("way", hub, steps), or ("cut", places) where the start does not reach the goal."""
        hub = self._joining(start, goal)
        if hub is None:
            return ("cut", reached(self._web, ONWARD, start=start))
        _, steps = shortest_way(self._web, ONWARD, start=start, goal=hub)
        _, later = shortest_way(self._web, ONWARD, start=hub, goal=goal)
        return ("way", hub, steps + later)

    def _joining(self, start, goal):
        """Tell the least hub by which the start reaches the goal, or None."""
        self._need_place(start)
        self._need_place(goal)
        return least_common(self._outs[start], self._ins[goal])

    def _need_place(self, place):
        """Refuse a place that is not there."""
        if place not in self._outs:
            raise NoPlace(f"place {place} is not there")

    def _renew(self):
        """Work the hubs of all places out from nothing."""
        places = self._web.places()
        onward = {place: {} for place in places}
        backward = {place: {} for place in places}
        for _, start, _, goal in self._web.ties():
            onward[start][goal] = True
            backward[goal][start] = True
        self._outs = {place: [] for place in places}
        self._ins = {place: [] for place in places}
        for hub in places:
            lesser_outs = list(self._outs[hub])
            lesser_ins = list(self._ins[hub])
            spread(hub, lesser_outs, onward, self._ins)
            spread(hub, lesser_ins, backward, self._outs)


def spread(hub, lesser, neighbours, hubs):
    """Give the hub to each place that it comes to, but where a lesser hub stands between."""
    # Behind such a place that lesser hub stands between as well, so it is not
    # gone on from there.
    seen = {hub: True}
    waiting = [hub]
    while waiting:
        place = waiting.pop()
        if least_common(lesser, hubs[place]) is None:
            hubs[place].append(hub)
            fresh = [other for other in neighbours[place] if other not in seen]
            for other in fresh:
                seen[other] = True
            waiting.extend(fresh)


def least_common(hubs, others):
    """Tell the least hub that stands in both rising lists, or None."""
    for hub in hubs:
        if hub in others:
            return hub
    return None
