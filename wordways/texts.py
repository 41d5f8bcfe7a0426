"""Webs as texts, a row for each place and each tie."""

from wordways.errors import NoText, NotFormed
from wordways.webs import MOST_PLACES, MOST_TIES, Web
from wordways.words import is_name

FIGURES = "0123456789"
MOST_FIGURES = 50


def web_text(web):
    """Write the web as a text."""
    rows = [f"place {place}" for place in web.places()]
    rows.extend([f"tie {tie} {start} {name} {goal}" for tie, start, name, goal in web.ties()])
    return "\n".join(rows)


def read_web(text):
    """Read the web that is so written, or refuse the text with NoText or NotFormed."""
    places, ties = read_rows(text)
    numbers = [row[0] for row in ties]
    if len(places) > MOST_PLACES or len(ties) > MOST_TIES:
        raise NotFormed("too many places or ties")
    if not rises(places) or not rises(numbers):
        raise NotFormed("numbers that do not rise")
    for _, start, _, goal in ties:
        if start not in places or goal not in places:
            raise NotFormed("a tie at a place that is not there")
    web = Web()
    web.put_back((places, ties, next_number(places), next_number(numbers)))
    return web


def read_rows(text):
    """Read the places, and the ties as (tie, start, name, goal), or refuse the text with NoText."""
    places = []
    ties = []
    for row in text.split("\n") if text else []:
        words = row.split(" ")
        # All places stand ahead of all ties.
        if words[0] == "place" and len(words) == 2 and not ties:
            places.append(read_whole(words[1]))
        elif words[0] == "tie" and len(words) == 5:
            ties.append(read_tie(words))
        else:
            raise NoText("a row that is neither a place nor a tie")
    return places, ties


def read_tie(words):
    """Read the words of the row of a tie: (tie, start, name, goal)."""
    _, tie, start, name, goal = words
    if not is_name(name):
        raise NoText("a tie without a name")
    return read_whole(tie), read_whole(start), name, read_whole(goal)


def read_whole(text):
    """Read the whole number that is so written, or refuse the text with NoText."""
    if not 1 <= len(text) <= MOST_FIGURES or not all([sign in FIGURES for sign in text]):
        raise NoText("this is no number of one to fifty figures")
    if text[0] == "0" and text != "0":
        raise NoText("a number with a 0 ahead")
    return int(text)


def rises(numbers):
    """Tell whether each number is greater than the one ahead."""
    return numbers == sorted(set(numbers))


def next_number(numbers):
    """Tell the number that is given next behind these."""
    return max(numbers, default=-1) + 1
