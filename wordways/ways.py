"""Ways whose names spell a row of a word, and cuts that show that there is none."""

from wordways.machines import takes
from wordways.pairs import Pairs, asked_pairs, found_from, way_to


def spelled(web, steps):
    """Tell the letters of the steps."""
    letters = []
    for tie, side in steps:
        _, name, _ = web.ends_of(tie)
        letters.append(name if side == "on" else "^" + name)
    return letters


def way_fault(web, word, steps, *, start, goal):
    """Tell the first fault of a way, or None."""
    ends = {tie: (first, last) for tie, first, _, last in web.ties()}
    place = start
    for k, (tie, side) in enumerate(steps):
        if tie not in ends:
            return ("tie", k)
        if side not in ("on", "back"):
            return ("side", k)
        first, last = ends[tie] if side == "on" else ends[tie][::-1]
        if first != place:
            return ("place", k)
        place = last
    if place != goal:
        return ("goal", len(steps))
    if not takes(word, spelled(web, steps)):
        return ("word", len(steps))
    return None


def cut_fault(web, word, pairs, *, start, goal):
    """Tell the first fault of a cut, or None."""
    graph = Pairs(web, word)
    for k, pair in enumerate(pairs):
        if not is_pair(graph, pair) or (k > 0 and pair <= pairs[k - 1]):
            return ("order", k)
    held = {pair: True for pair in pairs}
    if (start, 0) not in held:
        return ("start",)
    for k, (place, state) in enumerate(pairs):
        if place == goal and state in graph.ends:
            return ("goal", k)
    for k, pair in enumerate(pairs):
        if not all([later in held for _, later in graph.behind(pair)]):
            return ("step", k)
    return None


def is_pair(graph, pair):
    """Tell whether these are a place of the web and a state of the machine."""
    place, state = pair
    return place in graph.steps and 0 <= state < graph.states


def any_way(web, word, *, start, goal):
    """Tell ("way", steps), or ("cut", pairs) where there is no way."""
    return shortest_way(web, word, start=start, goal=goal)


def shortest_way(web, word, *, start, goal):
    """Tell ("way", steps) of the fewest steps, or ("cut", pairs of the levels)."""
    graph = asked_pairs(web, word, [start, goal])
    found = found_from(graph, (start, 0))
    # The nearest pairs stand ahead.
    for pair in found:
        if pair[0] == goal and pair[1] in graph.ends:
            return ("way", way_to(found, pair))
    return ("cut", sorted(found))


def levels(web, word, *, start=0):
    """Tell, rising, the pairs to which steps lead: (place, state, level)."""
    graph = asked_pairs(web, word, [start])
    found = found_from(graph, (start, 0))
    return [(*pair, found[pair][0]) for pair in sorted(found)]


def reached(web, word, *, start=0):
    """Tell, rising, the goals to which a way of the word leads."""
    return goals_from(asked_pairs(web, word, [start]), start)


def goals_from(graph, start):
    """Tell, rising, the places at which a way from the start may end."""
    found = found_from(graph, (start, 0))
    return sorted({place for place, state in found if state in graph.ends})


def answers(web, word):
    """Tell, rising, each (start, goal) between which a way of the word leads."""
    graph = asked_pairs(web, word, [])
    return [(start, goal) for start in web.places() for goal in goals_from(graph, start)]
