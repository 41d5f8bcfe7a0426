"""A reply to a question about a web, all of them texts."""

from wordways.errors import NoPlace, NotFormed, NoText
from wordways.kinds import KINDS, asked_by_kind, too_great_for
from wordways.texts import read_web, read_whole
from wordways.wordtexts import read


def reply(web, question):
    """Answer the question about the web, or refuse what is not as it must be."""
    known = read_web(web)
    kind, word, start, goal = read_question(question)
    for place in (start, goal):
        if place not in known.places():
            raise NoPlace(f"place {place} is not there")
    if too_great_for(kind, known):
        raise NotFormed("a web too great for ways of this kind")
    return steps_text(steps_told(asked_by_kind(kind, known, word, start, goal)))


def read_question(question):
    """Read (kind, word, start, goal), or refuse the question with NoText."""
    words = question.split(" ")
    if words[0] not in KINDS or "from" not in words:
        raise NoText("a question without a kind, or without a from")
    at = words.index("from")
    ends = words[at + 1:]
    if len(ends) != 3 or ends[1] != "to":
        raise NoText("a question without its start and its goal")
    word = read(" ".join(words[1:at]))
    return words[0], word, read_whole(ends[0]), read_whole(ends[2])


def steps_told(told):
    """Tell the steps of what a kind's function told, or None where there is no way."""
    # Trails and bare ways are told bare, the other ways with what they are.
    if not isinstance(told, tuple):
        return told
    return told[1] if told[0] == "way" else None


def steps_text(steps):
    """Write the steps of a way, or that there is none."""
    if steps is None:
        return "none"
    return " ".join(["way"] + [f"{tie}" if side == "on" else f"^{tie}" for tie, side in steps])
