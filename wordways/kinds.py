"""The kinds of ways that may be asked for."""

from wordways.errors import NoKind
from wordways.trails import bare_way, trail
from wordways.ways import any_way, shortest_way

KINDS = ("any", "shortest", "trail", "bare")

MOST_TRAIL_TIES = 8
MOST_BARE_PLACES = 7
MOST_BARE_TIES = 16


def asked_by_kind(kind, web, word, start, goal):
    """Tell what the function of the kind tells, or refuse the kind ahead of all else."""
    if kind == "any":
        return any_way(web, word, start=start, goal=goal)
    if kind == "shortest":
        return shortest_way(web, word, start=start, goal=goal)
    if kind == "trail":
        return trail(web, word, start=start, goal=goal)
    if kind == "bare":
        return bare_way(web, word, start=start, goal=goal)
    raise NoKind("this is no kind")


def too_great_for(kind, web):
    """Tell whether the web is beyond the bounds in which ways of the kind are asked for."""
    if kind == "trail":
        return len(web) > MOST_TRAIL_TIES
    if kind == "bare":
        return len(web) > MOST_BARE_TIES or len(web.places()) > MOST_BARE_PLACES
    return False
