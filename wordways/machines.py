"""The machine of a word, the rows that it takes, and how two words differ."""

from wordways.words import SMALL_LETTERS, is_letter, leaves_of, spells_none


class Builder:
    """The leaves and follows of a word, put together part by part from the left.

    A piece is what is known of one part: whether it spells the row of none,
    the states that may be first in its rows, and those that may be last.
    """

    def __init__(self):
        self.leaves = []
        self.follows = [{}]

    def add_leaf(self, leaf):
        """Give the leaf the next state and tell its number."""
        self.leaves.append(leaf)
        self.follows.append({})
        return len(self.leaves)

    def link(self, states, later_states):
        """Let each of the later states come right behind each of the states."""
        for state in states:
            for later in later_states:
                self.follows[state][later] = True

    def piece(self, word):
        """Take a word in and tell its piece."""
        # What spells no row must lead nowhere, but its leaves are numbered.
        if spells_none(word):
            for leaf in leaves_of(word):
                self.add_leaf(leaf)
            return False, [], []
        kind = word[0]
        if kind == "empty":
            return True, [], []
        if kind == "then":
            return self.then_piece(word)
        if kind == "or":
            return self.or_piece(word)
        if kind in ("again", "more", "maybe"):
            return self.repeated_piece(word)
        state = self.add_leaf(word)
        return False, [state], [state]

    def then_piece(self, word):
        """Take a then in that spells a row, and tell its piece."""
        bare, firsts, lasts = self.piece(word[1])
        later_bare, later_firsts, later_lasts = self.piece(word[2])
        self.link(lasts, later_firsts)
        if bare:
            firsts = firsts + later_firsts
        if later_bare:
            later_lasts = lasts + later_lasts
        return bare and later_bare, firsts, later_lasts

    def or_piece(self, word):
        """Take an or in that spells a row, and tell its piece."""
        bare, firsts, lasts = self.piece(word[1])
        other_bare, other_firsts, other_lasts = self.piece(word[2])
        return bare or other_bare, firsts + other_firsts, lasts + other_lasts

    def repeated_piece(self, word):
        """Take an again, more or maybe in that spells a row, and tell its piece."""
        bare, firsts, lasts = self.piece(word[1])
        if word[0] != "maybe":
            self.link(lasts, firsts)
        return bare or word[0] != "more", firsts, lasts


def machine(word):
    """Tell the machine of the word: (leaves, ends, follows)."""
    builder = Builder()
    bare, firsts, lasts = builder.piece(word)
    builder.link([0], firsts)
    ends = [0] + lasts if bare else list(lasts)
    return builder.leaves, ends, [sorted(row) for row in builder.follows]


def fits(leaf, letter):
    """Tell whether the letter fits the leaf."""
    if not is_letter(letter):
        return False
    kind = leaf[0]
    if kind == "name":
        return letter == leaf[1]
    if kind == "back":
        return letter == "^" + leaf[1]
    if kind == "any":
        return letter[0] != "^"
    return kind == "anyback" and letter[0] == "^"


def leads_by(net, letter):
    """Tell for each state of a machine the states that the letter leads to."""
    leaves, _, follows = net
    fitting = [False] + [fits(leaf, letter) for leaf in leaves]
    return [[later for later in row if fitting[later]] for row in follows]


def led_to(leads, states):
    """Tell, rising, all states to which one of the states leads."""
    return sorted({later for state in states for later in leads[state]})


def takes(word, row):
    """Tell whether the word spells the row of letters."""
    net = machine(word)
    states = [0]
    for letter in row:
        states = led_to(leads_by(net, letter), states)
    return has_end(net, states)


def has_end(net, states):
    """Tell whether one of the states is an end of the machine."""
    return any([state in net[1] for state in states])


def letter_of(leaf):
    """Tell a letter that fits the letter leaf."""
    if leaf[0] == "name":
        return leaf[1]
    if leaf[0] == "back":
        return "^" + leaf[1]
    return "a" if leaf[0] == "any" else "^a"


def shortest_row(word):
    """Tell a shortest row that the word takes, or None where it takes none."""
    kind = word[0]
    if kind == "none":
        return None
    if kind in ("empty", "again", "maybe"):
        return []
    if kind == "more":
        return shortest_row(word[1])
    if kind == "then":
        return joined_rows(shortest_row(word[1]), shortest_row(word[2]))
    if kind == "or":
        return shorter_row(shortest_row(word[1]), shortest_row(word[2]))
    return [letter_of(word)]


def joined_rows(row, later):
    """Tell the one row and the other behind it, or None where one is None."""
    if row is None or later is None:
        return None
    return row + later


def shorter_row(row, other):
    """Tell the shorter of two rows, or the one that is not None."""
    if row is None or (other is not None and len(other) < len(row)):
        return other
    return row


def other_name(leaves):
    """Tell a name that none of the leaves has."""
    used = [leaf[1] for leaf in leaves if len(leaf) == 2]
    for first in ["", *SMALL_LETTERS]:
        for second in SMALL_LETTERS:
            if first + second not in used:
                return first + second


def telling_letters(leaves):
    """Tell letters enough to tell words with these leaves apart."""
    # Letters that fit no leaf by name fit the same leaves: one of them, gone
    # on and gone back, stands for all.
    other = other_name(leaves)
    letters = {other: True, "^" + other: True}
    for leaf in leaves:
        if len(leaf) == 2:
            letters[letter_of(leaf)] = True
    return list(letters)


def within(one, two):
    """Tell a shortest row that one takes and two does not, or None."""
    net = machine(one)
    other_net = machine(two)
    moves = [
        (letter, leads_by(net, letter), leads_by(other_net, letter))
        for letter in telling_letters(net[0] + other_net[0])
    ]
    # A pair is a state of the one, and all states of the other that the same
    # row leads to; the rows are found shortest first.
    level = [(0, (0,))]
    rows = {level[0]: []}
    while level:
        for state, others in level:
            if has_end(net, [state]) and not has_end(other_net, others):
                return rows[(state, others)]
        level = next_level(level, rows, moves)
    return None


def next_level(level, rows, moves):
    """Tell the new pairs one letter behind those of a level, and keep their rows."""
    found = []
    for state, others in level:
        for letter, leads, other_leads in moves:
            later_others = tuple(led_to(other_leads, others))
            for later in leads[state]:
                pair = (later, later_others)
                if pair not in rows:
                    rows[pair] = rows[(state, others)] + [letter]
                    found.append(pair)
    return found


def parted(one, two):
    """Tell a shortest row that just one of the words takes, or None."""
    return shorter_row(within(one, two), within(two, one))
