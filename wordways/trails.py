"""Ways that go no tie twice, or come to no place twice."""

from wordways.machines import led_to
from wordways.pairs import asked_pairs


def trail(web, word, *, start, goal):
    """Tell the first of the shortest ways that go no tie twice, or None."""
    graph = asked_pairs(web, word, [start, goal])
    return first_way(graph, ([], start, (), [0]), goal, False)


def bare_way(web, word, *, start, goal):
    """Tell the first of the shortest ways that come to no place twice, or None."""
    graph = asked_pairs(web, word, [start, goal])
    return first_way(graph, ([], start, (start,), [0]), goal, True)


def first_way(graph, beginning, goal, by_places):
    """Tell the first of the shortest ways that use nothing up twice, or None.

    A way is (steps, place, used, states): what it uses up, its ties or its
    places, and the states in which it may stand at its place.
    """
    level = [beginning]
    seen = {}
    while level:
        for steps, place, _, states in level:
            if place == goal and any([state in graph.ends for state in states]):
                return steps
        level = longer_ways(graph, level, by_places, seen)
    return None


def longer_ways(graph, level, by_places, seen):
    """Tell, rising, the ways of a level gone on by one step."""
    found = []
    for steps, place, used, states in level:
        for step, other, letter in graph.steps[place]:
            spent = other if by_places else step[0]
            if spent not in used:
                now_used = tuple(sorted([*used, spent]))
                later = led_to(graph.leads[letter], states)
                later = unseen(other, now_used, later, seen)
                if later:
                    found.append((steps + [step], other, now_used, later))
    return found


def unseen(place, used, states, seen):
    """Tell the states in which no way stood that used the same up, and keep them."""
    # Whatever goes on from such a state goes on from the earlier way as well,
    # and that one is shorter, or as short and stands ahead.
    fresh = [state for state in states if (place, used, state) not in seen]
    for state in fresh:
        seen[(place, used, state)] = True
    return fresh
