"""Webs: places and ties with names, put in and taken out, and undone to marks."""

from wordways.errors import Full, NoMark, NoName, NoPlace, NoTie, Tied
from wordways.words import is_name

MOST_PLACES = 60
MOST_TIES = 200


class Web:
    """Places and ties by their numbers, and what stood when each mark was set."""

    def __init__(self, *, most_places=MOST_PLACES, most_ties=MOST_TIES):
        self._most_places = most_places
        self._most_ties = most_ties
        self._places = {}
        self._ties = {}
        self._next_place = 0
        self._next_tie = 0
        self._marks = []

    def __len__(self):
        return len(self._ties)

    def place(self):
        """Make a place and tell its number."""
        if len(self._places) >= self._most_places:
            raise Full(self._most_places)
        place = self._next_place
        self._places[place] = True
        self._next_place = place + 1
        return place

    def tie(self, start, name, goal):
        """Make a tie and tell its number."""
        self._need_place(start)
        self._need_place(goal)
        if not is_name(name):
            raise NoName("a name is one to eight small letters")
        if len(self._ties) >= self._most_ties:
            raise Full(self._most_ties)
        tie = self._next_tie
        self._ties[tie] = (start, name, goal)
        self._next_tie = tie + 1
        return tie

    def cut(self, tie):
        """Take a tie out."""
        self._need_tie(tie)
        del self._ties[tie]

    def drop(self, place):
        """Take a place out at which no tie is."""
        if self.ties_at(place):
            raise Tied(f"ties are at place {place}")
        del self._places[place]

    def places(self):
        """Tell the places, rising."""
        return sorted(self._places)

    def ties(self):
        """Tell the ties, rising: (tie, start, name, goal)."""
        return [(tie, *self._ties[tie]) for tie in sorted(self._ties)]

    def ends_of(self, tie):
        """Tell of a tie (start, name, goal)."""
        self._need_tie(tie)
        return self._ties[tie]

    def ties_at(self, place):
        """Tell, rising, the ties that start or end at the place."""
        self._need_place(place)
        return [tie for tie, start, _, goal in self.ties() if place in (start, goal)]

    def mark(self):
        """Set a mark and tell its number."""
        self._marks.append(self.stand())
        return len(self._marks) - 1

    def undo(self, mark):
        """Put all back to where it was when the mark was set."""
        if not 0 <= mark < len(self._marks):
            raise NoMark(f"mark {mark} is not there")
        self.put_back(self._marks[mark])
        del self._marks[mark + 1:]

    def stand(self):
        """Tell all that stands: places and ties as they are told, and the next numbers of both."""
        return self.places(), self.ties(), self._next_place, self._next_tie

    def put_back(self, stand):
        """Let stand just what is told there; the marks stay."""
        places, ties, self._next_place, self._next_tie = stand
        self._places = {place: True for place in places}
        self._ties = {tie: (start, name, goal) for tie, start, name, goal in ties}

    def _need_place(self, place):
        """Refuse a place that is not there."""
        if place not in self._places:
            raise NoPlace(f"place {place} is not there")

    def _need_tie(self, tie):
        """Refuse a tie that is not there."""
        if tie not in self._ties:
            raise NoTie(f"tie {tie} is not there")
