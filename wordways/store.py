"""A store: a web with marks, rows of deeds done as one, and kept questions."""

from wordways.errors import Full, NoAsk, NoName, NoPlace, NotDone, NotFormed, NoTie, Tied
from wordways.kinds import asked_by_kind
from wordways.ways import answers
from wordways.webs import MOST_PLACES, MOST_TIES, Web

# Of each deed, how many things stand in its tuple.
DEED_LENGTHS = {"place": 1, "tie": 4, "cut": 2, "drop": 2}


class Kept:
    """A kept question: its word, and the answers of which its news were last told."""

    def __init__(self, word, told):
        self.word = word
        self.told = told


class Store:
    """A web, the kept questions by their numbers, and the log of rows of deeds."""

    def __init__(self, *, most_places=MOST_PLACES, most_ties=MOST_TIES):
        self._web = Web(most_places=most_places, most_ties=most_ties)
        self._kept = {}
        self._next_ask = 0
        self._log = []

    def place(self):
        """Make a place and tell its number."""
        return self._web.place()

    def tie(self, start, name, goal):
        """Make a tie and tell its number."""
        return self._web.tie(start, name, goal)

    def cut(self, tie):
        """Take a tie out."""
        self._web.cut(tie)

    def drop(self, place):
        """Take a place out at which no tie is."""
        self._web.drop(place)

    def places(self):
        """Tell the places, rising."""
        return self._web.places()

    def ties(self):
        """Tell the ties, rising: (tie, start, name, goal)."""
        return self._web.ties()

    def ends_of(self, tie):
        """Tell of a tie (start, name, goal)."""
        return self._web.ends_of(tie)

    def ties_at(self, place):
        """Tell, rising, the ties that start or end at the place."""
        return self._web.ties_at(place)

    def mark(self):
        """Set a mark and tell its number."""
        return self._web.mark()

    def undo(self, mark):
        """Put the web back to where it was when the mark was set."""
        self._web.undo(mark)

    def do_all(self, deeds):
        """Do a row of deeds and tell what each tells, or undo them all with NotDone."""
        stand = self._web.stand()
        told = []
        self._log.append("in")
        try:
            for deed in deeds:
                told.append(do_deed(self._web, deed))
        except (NoPlace, NoTie, NoName, Tied, Full, NotFormed) as refusal:
            self._web.put_back(stand)
            self._log.append("back")
            raise NotDone(len(told)) from refusal
        finally:
            self._log.append("out")
        return told

    def log(self):
        """Tell of each row of deeds so far "in", "back" where it was undone, and "out"."""
        return list(self._log)

    def keep(self, word):
        """Keep a word whose answers are asked, and tell the question's number."""
        ask = self._next_ask
        self._kept[ask] = Kept(word, answers(self._web, word))
        self._next_ask = ask + 1
        return ask

    def let_go(self, ask):
        """Keep the question no longer."""
        self._need_ask(ask)
        del self._kept[ask]

    def answers_of(self, ask):
        """Tell, rising, the answers of the question as the web now stands."""
        self._need_ask(ask)
        return answers(self._web, self._kept[ask].word)

    def news(self, ask):
        """Tell, rising, the answers gained and those lost since news were last told."""
        now = self.answers_of(ask)
        kept = self._kept[ask]
        gained = only_in(now, kept.told)
        lost = only_in(kept.told, now)
        kept.told = now
        return gained, lost

    def asks(self):
        """Tell, rising, the numbers of the kept questions."""
        return sorted(self._kept)

    def ask(self, kind, word, *, start, goal):
        """Tell a way of the kind as the function of this kind tells it."""
        return asked_by_kind(kind, self._web, word, start, goal)

    def _need_ask(self, ask):
        """Refuse a question that is not kept."""
        if ask not in self._kept:
            raise NoAsk(f"question {ask} is not kept")


def do_deed(web, deed):
    """Do a deed that is told as a tuple, and tell what it tells."""
    if not deed or DEED_LENGTHS.get(deed[0]) != len(deed):
        raise NotFormed("this is no deed")
    kind = deed[0]
    if kind == "place":
        return web.place()
    if kind == "tie":
        return web.tie(deed[1], deed[2], deed[3])
    if kind == "cut":
        return web.cut(deed[1])
    return web.drop(deed[1])


def only_in(pairs, others):
    """Tell the pairs that are not among the others."""
    known = {pair: True for pair in others}
    return [pair for pair in pairs if pair not in known]
