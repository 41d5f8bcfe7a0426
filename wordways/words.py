"""Words: tuples that tell rows of letters."""

SMALL_LETTERS = "abcdefghijklmnopqrstuvwxyz"
LONGEST_NAME = 8

NAMED_LEAVES = ("name", "back")
LETTER_LEAVES = ("name", "back", "any", "anyback")
BARE_LEAVES = ("any", "anyback", "empty", "none")
ONE_PART = ("again", "more", "maybe")
TWO_PARTS = ("then", "or")


def is_name(text):
    """Tell whether the text is a name: one to eight small letters."""
    if not 1 <= len(text) <= LONGEST_NAME:
        return False
    return all([sign in SMALL_LETTERS for sign in text])


def is_letter(text):
    """Tell whether the text is a letter: a name, or `^` and a name."""
    return is_name(text) or (text[:1] == "^" and is_name(text[1:]))


def parts_of(word):
    """Tell the words that stand right inside a formed word, left ones ahead."""
    if word[0] in ONE_PART or word[0] in TWO_PARTS:
        return word[1:]
    return ()


def formed(word):
    """Tell whether this is a word by its form, however great it is."""
    # A list of what is still to be looked at, not a call in a call: what is
    # handed in here may be deeper than any word that is used.
    waiting = [word]
    while waiting:
        part = waiting.pop()
        if not has_form(part):
            return False
        waiting.extend(parts_of(part))
    return True


def has_form(part):
    """Tell whether this is formed, whatever stands where its own parts must."""
    # What stands first may be a tuple itself: only a text is looked up.
    if not isinstance(part, tuple) or not part or not isinstance(part[0], str):
        return False
    kind = part[0]
    if kind in NAMED_LEAVES:
        return len(part) == 2 and isinstance(part[1], str) and is_name(part[1])
    if kind in BARE_LEAVES:
        return len(part) == 1
    if kind in ONE_PART:
        return len(part) == 2
    return kind in TWO_PARTS and len(part) == 3


def leaves_of(word):
    """Tell the letter leaves of the word, left ones ahead."""
    found = []
    waiting = [word]
    while waiting:
        part = waiting.pop()
        if part[0] in LETTER_LEAVES:
            found.append(part)
        waiting.extend(parts_of(part)[::-1])
    return found


def spells_none(word):
    """Tell whether there is no row that the word spells."""
    kind = word[0]
    if kind == "then":
        return spells_none(word[1]) or spells_none(word[2])
    if kind == "or":
        return spells_none(word[1]) and spells_none(word[2])
    if kind == "more":
        return spells_none(word[1])
    return kind == "none"
