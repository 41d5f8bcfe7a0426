"""Words as texts."""

from wordways.errors import NoText
from wordways.words import SMALL_LETTERS, is_name, parts_of

MOST_LEAVES = 40
MOST_DEEP = 20

LEAF_TEXTS = {"any": ".", "anyback": "^.", "empty": "()", "none": "!"}
TEXT_LEAVES = {".": ("any",), "^.": ("anyback",), "()": ("empty",), "!": ("none",)}
MARK_TEXTS = {"again": "*", "more": "+", "maybe": "?"}
TEXT_MARKS = {"*": "again", "+": "more", "?": "maybe"}


def shown(word):
    """Write the word as a text."""
    kind = word[0]
    if kind == "name":
        return word[1]
    if kind == "back":
        return "^" + word[1]
    if kind == "then":
        return bracketed(word[1], ("then", "or")) + " " + bracketed(word[2], ("or",))
    if kind == "or":
        return bracketed(word[1], ("or",)) + "|" + shown(word[2])
    if kind in MARK_TEXTS:
        return bracketed(word[1], ("then", "or")) + MARK_TEXTS[kind]
    return LEAF_TEXTS[kind]


def bracketed(word, kinds):
    """Write the word, in brackets where it is of one of the kinds."""
    text = shown(word)
    return f"({text})" if word[0] in kinds else text


def read(text):
    """Read the word that is so written, or refuse the text with NoText."""
    reader = Reader()
    for sign in signs_of(text):
        reader.take(sign)
    word = reader.whole()
    # The size is looked at first: all behind it may go down part by part.
    if too_great(word):
        raise NoText("a word with too many leaves, or too deep")
    # The reader lets brackets stand round any part; just one text is right.
    if shown(word) != text:
        raise NoText("brackets where none may stand")
    return word


def signs_of(text):
    """Cut the text into its signs: leaves stay whole, all else is one by one."""
    signs = []
    at = 0
    while at < len(text):
        end = end_of_sign(text, at)
        signs.append(text[at:end])
        at = end
    return signs


def end_of_sign(text, at):
    """Tell where the sign ends that begins at this place of the text."""
    if text[at:at + 2] in ("()", "^."):
        return at + 2
    end = at + 1
    if text[at] == "^" or text[at] in SMALL_LETTERS:
        while end < len(text) and text[end] in SMALL_LETTERS:
            end += 1
    return end


def leaf_of(sign):
    """Tell the leaf that the sign is, or None."""
    if is_name(sign):
        return ("name", sign)
    if sign[0] == "^" and is_name(sign[1:]):
        return ("back", sign[1:])
    return TEXT_LEAVES.get(sign)


class Reader:
    """What is read of a text so far.

    For each bracket that is still to be shut, and for the whole, there is a
    group: a list of what stands between strokes, each a list of the words
    that stand between blanks.
    """

    def __init__(self):
        self.groups = [[[]]]
        self.wanting = True

    def take(self, sign):
        """Take the next sign, or refuse it with NoText."""
        leaf = leaf_of(sign)
        # Where a word is wanted one must begin, and nowhere else.
        if (leaf is not None or sign == "(") != self.wanting:
            raise NoText("a sign where it may not stand")
        if leaf is not None:
            self.put(leaf)
        elif sign == "(":
            self.groups.append([[]])
        else:
            self.take_behind(sign)

    def take_behind(self, sign):
        """Take a sign that stands behind a word."""
        words = self.groups[-1][-1]
        if sign in TEXT_MARKS:
            words[-1] = (TEXT_MARKS[sign], words[-1])
        elif sign == " ":
            self.wanting = True
        elif sign == "|":
            self.groups[-1].append([])
            self.wanting = True
        elif sign == ")" and len(self.groups) > 1:
            self.put(word_of(self.groups.pop()))
        else:
            raise NoText("a sign where it may not stand")

    def put(self, word):
        """Put a word behind those between the same strokes."""
        self.groups[-1][-1].append(word)
        self.wanting = False

    def whole(self):
        """Tell the word that was read, or refuse a text that is not at its end."""
        if self.wanting or len(self.groups) > 1:
            raise NoText("the text ends too soon")
        return word_of(self.groups[0])


def word_of(group):
    """Tell the word that a group is."""
    return folded("or", [folded("then", words) for words in group])


def folded(kind, words):
    """Put the words together by the kind, each round all behind it."""
    whole = words[-1]
    for word in words[-2::-1]:
        whole = (kind, word, whole)
    return whole


def too_great(word):
    """Tell whether the word has more leaves, or is deeper, than may be read."""
    leaves = 0
    deep = 0
    level = [word]
    while level:
        deep += 1
        leaves += len([part for part in level if not parts_of(part)])
        level = [inner for part in level for inner in parts_of(part)]
    return leaves > MOST_LEAVES or deep > MOST_DEEP
