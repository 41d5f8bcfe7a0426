"""Ways counted: those of just so many steps, told by number and back, and all."""

from wordways.errors import NoWay
from wordways.pairs import asked_pairs, way_to
from wordways.spots import Spots, ring_among, without_end

MOST_STEPS = 40


class Table:
    """How many ways of each number of steps lead on from each spot to the end."""

    def __init__(self, spots, length):
        self.onward = spots.onward
        self.first = spots.first
        self.rows = [{spot: 1 if spots.is_last(spot) else 0 for spot in self.onward}]
        for _ in range(length):
            self.rows.append(self.longer(self.rows[-1]))
        self.all_ways = self.rows[-1][self.first]

    def longer(self, row):
        """Tell how many ways there are of one step more than those of the row."""
        return {spot: sum([row[later] for _, later in self.onward[spot]]) for spot in self.onward}

    def shorter_rows(self):
        """Tell the rows for what is left of a way behind each of its steps."""
        return self.rows[:-1][::-1]


def asked_spots(web, word, start, goal):
    """Tell the spots of what is asked, or refuse it."""
    return Spots(asked_pairs(web, word, [start, goal]), start, goal)


def count_ways(web, word, *, start, goal, length=MOST_STEPS):
    """Tell how many ways there are of just so many steps."""
    return Table(asked_spots(web, word, start, goal), length).all_ways


def way_at(web, word, number, *, start, goal, length=MOST_STEPS):
    """Tell the way of this number among those of just so many steps."""
    table = Table(asked_spots(web, word, start, goal), length)
    if not 0 <= number < table.all_ways:
        raise NoWay(table.all_ways)
    steps = []
    spot = table.first
    for row in table.shorter_rows():
        step, spot, number = step_at(table.onward[spot], row, number)
        steps.append(step)
    return steps


def step_at(onward, row, number):
    """Tell the step that the way of this number goes first, the spot to which it
    leads, and the number of what is left among all that is left from there."""
    for step, later in onward:
        if number < row[later]:
            return step, later, number
        number = number - row[later]


def number_of(web, word, steps, *, start, goal):
    """Tell the number of a way among those of as many steps."""
    table = Table(asked_spots(web, word, start, goal), len(steps))
    number = 0
    spot = table.first
    for step, row in zip(steps, table.shorter_rows()):
        onward = table.onward[spot]
        number = number + sum([row[later] for other, later in onward if other < step])
        spot = spot_behind(onward, step)
        if spot is None:
            raise NoWay(table.all_ways)
    if table.rows[0][spot] == 0:
        raise NoWay(table.all_ways)
    return number


def spot_behind(onward, step):
    """Tell the spot to which the step leads, or None."""
    for other, later in onward:
        if other == step:
            return later
    return None


def count_all(web, word, *, start, goal):
    """Tell ("count", many), or ("endless", first, ring, last)."""
    spots = asked_spots(web, word, start, goal)
    onward = spots.useful()
    endless = without_end(onward)
    if not endless:
        return ("count", counted(spots, onward))
    spot, ring = ring_among(endless)
    return ("endless", way_to(spots.found, spot), ring, spots.way_from(spot))


def counted(spots, onward):
    """Tell how many ways there are, where none goes on without end."""
    many = 0
    level = {spot: 1 for spot in onward if spot == spots.first}
    while level:
        many = many + sum([level[spot] for spot in level if spots.is_last(spot)])
        level = one_behind(level, onward)
    return many


def one_behind(level, onward):
    """Tell for each spot one step behind a level how many ways lead to it."""
    behind = {}
    for spot in level:
        for _, later in onward[spot]:
            behind[later] = behind.get(later, 0) + level[spot]
    return behind
