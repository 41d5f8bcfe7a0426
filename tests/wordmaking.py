"""Words for the tests, and a second way to tell what they spell."""

A = ("name", "a")
B = ("name", "b")
C = ("name", "c")
BACK_A = ("back", "a")
ANY = ("any",)
ANYBACK = ("anyback",)
EMPTY = ("empty",)
NONE = ("none",)

LEAVES = (A, B, BACK_A, ANY, ANYBACK, EMPTY, NONE)
ONE_PART = ("again", "more", "maybe")
TWO_PARTS = ("then", "or")


def then(*words):
    """Put words behind one another, brackets to the right."""
    return words[0] if len(words) == 1 else ("then", words[0], then(*words[1:]))


def either(*words):
    """Put words beside one another, brackets to the right."""
    return words[0] if len(words) == 1 else ("or", words[0], either(*words[1:]))


def deepened(word, many, kind="again"):
    """Put the word that many times into a word of one part."""
    for _ in range(many):
        word = (kind, word)
    return word


def balanced(leaves, kinds=TWO_PARTS):
    """Put the leaves into a word as flat as can be."""
    if len(leaves) == 1:
        return leaves[0]
    half = len(leaves) // 2
    inner = kinds[1:] + kinds[:1]
    return (kinds[0], balanced(leaves[:half], inner), balanced(leaves[half:], inner))


def words_of_size(size, leaves=LEAVES):
    """All words of just so many parts, leaves and all."""
    if size == 1:
        return list(leaves)
    found = [(kind, part) for kind in ONE_PART for part in words_of_size(size - 1, leaves)]
    for left in range(1, size - 1):
        for one in words_of_size(left, leaves):
            for two in words_of_size(size - 1 - left, leaves):
                found += [(kind, one, two) for kind in TWO_PARTS]
    return found


def words_up_to(size, leaves=LEAVES):
    return [word for many in range(1, size + 1) for word in words_of_size(many, leaves)]


class Chooser:
    """The same row of choices in every run and on every Python."""

    def __init__(self, seed):
        self.state = seed

    def below(self, many):
        self.state = (self.state + 0x9E3779B97F4A7C15) % 2 ** 64
        mixed = (self.state ^ self.state >> 30) * 0xBF58476D1CE4E5B9 % 2 ** 64
        mixed = (mixed ^ mixed >> 27) * 0x94D049BB133111EB % 2 ** 64
        return (mixed >> 33) % many

    def of(self, things):
        return things[self.below(len(things))]

    def word(self, leaves, deep, choice=LEAVES):
        """A word of at most so many leaves, at most so deep."""
        if deep == 1:
            return self.of(choice)
        if leaves == 1 or self.below(3) == 0:
            if self.below(2) == 0:
                return self.of(choice)
            return (self.of(ONE_PART), self.word(leaves, deep - 1, choice))
        left = 1 + self.below(leaves - 1)
        one = self.word(left, deep - 1, choice)
        return (self.of(TWO_PARTS), one, self.word(leaves - left, deep - 1, choice))


def bare(word):
    """Whether the word spells the row of none."""
    kind = word[0]
    if kind == "then":
        return bare(word[1]) and bare(word[2])
    if kind == "or":
        return bare(word[1]) or bare(word[2])
    if kind == "more":
        return bare(word[1])
    return kind in ("empty", "again", "maybe")


def leaf_takes(leaf, letter):
    """Whether the leaf is a letter leaf for this letter."""
    return leaf in (
        ("back", letter[1:]) if letter.startswith("^") else ("name", letter),
        ANYBACK if letter.startswith("^") else ANY,
    )


def rests(word, letter):
    """The set of words for what may follow the letter in rows of the word."""
    kind = word[0]
    if kind == "or":
        return rests(word[1], letter) | rests(word[2], letter)
    if kind == "then":
        found = {("then", rest, word[2]) for rest in rests(word[1], letter)}
        return found | rests(word[2], letter) if bare(word[1]) else found
    if kind in ("again", "more"):
        return {("then", rest, ("again", word[1])) for rest in rests(word[1], letter)}
    if kind == "maybe":
        return rests(word[1], letter)
    return {EMPTY} if leaf_takes(word, letter) else set()


def rests_of_all(words, letter):
    return frozenset(rest for word in words for rest in rests(word, letter))


def spells(word, row):
    """Whether the word spells the row, told letter by letter from the word itself."""
    words = frozenset([word])
    for letter in row:
        words = rests_of_all(words, letter)
    return any(bare(rest) for rest in words)


def shortest_within(one, two, letters):
    """How short a row can be that one spells and two does not, or None."""
    level = [(frozenset([one]), frozenset([two]))]
    seen = set(level)
    length = 0
    while level:
        behind = []
        for ones, twos in level:
            if any(map(bare, ones)) and not any(map(bare, twos)):
                return length
            for letter in letters:
                pair = (rests_of_all(ones, letter), rests_of_all(twos, letter))
                if pair not in seen:
                    seen.add(pair)
                    behind.append(pair)
        level = behind
        length += 1
    return None


def rows_up_to(letters, length):
    """All rows of these letters up to a length."""
    rows = [()]
    last = [()]
    for _ in range(length):
        last = [row + (letter,) for row in last for letter in letters]
        rows += last
    return rows


def joined(ones, twos, length):
    return {one + two for one in ones for two in twos if len(one) + len(two) <= length}


def numbered_rows(word, length, start=1):
    """The rows of leaf numbers, up to a length, that the word spells, and the
    number behind the last of its leaves."""
    kind = word[0]
    if kind in ("empty", "none"):
        return ({()} if kind == "empty" else set()), start
    if kind in TWO_PARTS:
        ones, middle = numbered_rows(word[1], length, start)
        twos, end = numbered_rows(word[2], length, middle)
        return (ones | twos if kind == "or" else joined(ones, twos, length)), end
    if kind in ONE_PART:
        ones, end = numbered_rows(word[1], length, start)
        if kind == "maybe":
            return ones | {()}, end
        rows = set(ones) if kind == "more" else {()}
        while not joined(rows, ones, length) <= rows:
            rows |= joined(rows, ones, length)
        return rows, end
    return {(start,)}, start + 1
