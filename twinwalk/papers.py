"""Papers: what holds between two programs, places by places, and whether a paper is let by."""

from twinwalk.between import refuse_no_pair
from twinwalk.programs import all_known, box_sizes
from twinwalk.runs import beginning_of, every_input, every_worths, step_at

TURNS = ("mine", "yours", "both", "end")
QUIET = ("put", "test")


class Side:
    """One of two programs with all its worths, numbered in their order."""

    def __init__(self, program):
        self.program = program
        self.worths = every_worths(box_sizes(program))
        self.numbers = {tuple(worths): number for number, worths in enumerate(self.worths)}
        self.steps = {}
        self.stays = {}

    def number_of(self, worths):
        return self.numbers[tuple(worths)]

    def kind_at(self, place):
        return self.program[2][place][0]

    def steps_at(self, place):
        """By the worths' numbers the step from a place that is no end: what is said, place and number behind."""
        if place not in self.steps:
            told = [step_at(self.program, place, worths) for worths in self.worths]
            self.steps[place] = [(said, to, self.number_of(worths)) for said, to, worths in told]
        return self.steps[place]

    def stays_at(self, place):
        """What steps_at tells, of a program that takes no step."""
        if place not in self.stays:
            self.stays[place] = [([], place, number) for number in range(len(self.worths))]
        return self.stays[place]


class Ground:
    """All worths of both programs: a row is the number of such, mine and yours."""

    def __init__(self, one, other):
        self.mine = Side(one)
        self.yours = Side(other)
        self.width = len(self.yours.worths)
        self.rows = list(range(len(self.mine.worths) * self.width))
        self.columns = {}
        for at, (name, size) in enumerate(one[0]):
            self.columns[("mine", name)] = [self.mine.worths[row // self.width][at] for row in self.rows]
        for at, (name, size) in enumerate(other[0]):
            self.columns[("yours", name)] = [self.yours.worths[row % self.width][at] for row in self.rows]

    def row_of(self, mine, yours):
        return self.mine.number_of(mine) * self.width + self.yours.number_of(yours)

    def worths_of(self, row):
        return (list(self.mine.worths[row // self.width]), list(self.yours.worths[row % self.width]))

    def beginnings(self):
        """The rows at which the runs begin, for all inputs in their order."""
        one, other = self.mine.program, self.yours.program
        return [self.row_of(beginning_of(one, inputs), beginning_of(other, inputs)) for inputs in every_input(one)]


# A paper is asked at all rows, entry by entry, so sums and conditions are reckoned for many rows at once.


def worths_along(ground, rows, sum_told):
    """The worths of a sum between, one for each of the rows."""
    if sum_told[0] == "number":
        return [sum_told[1]] * len(rows)
    if sum_told[0] not in ("plus", "less"):
        column = ground.columns[sum_told]
        return [column[row] for row in rows]
    first, second = worths_along(ground, rows, sum_told[1]), worths_along(ground, rows, sum_told[2])
    if sum_told[0] == "plus":
        return [x + y for x, y in zip(first, second)]
    return [x - y for x, y in zip(first, second)]


def rows_where(ground, rows, condition):
    """Those of the rows at which a condition between holds, in their order."""
    if condition[0] == "yes":
        return rows
    if condition[0] == "not":
        return rows_without(rows, rows_where(ground, rows, condition[1]))
    if condition[0] == "both":
        return rows_where(ground, rows_where(ground, rows, condition[1]), condition[2])
    first, second = worths_along(ground, rows, condition[1]), worths_along(ground, rows, condition[2])
    if condition[0] == "same":
        return [row for row, x, y in zip(rows, first, second) if x == y]
    return [row for row, x, y in zip(rows, first, second) if x < y]


def rows_without(rows, taken):
    gone = set(taken)
    return [row for row in rows if row not in gone]


def rows_counted(ground, paper):
    """For each entry the rows at which it counts, rising."""
    free, counted = {}, []
    for entry in paper:
        places = (entry[0], entry[1])
        rows = free.get(places, ground.rows)
        taken = rows_where(ground, rows, entry[2])
        free[places] = rows_without(rows, taken)
        counted.append(taken)
    return counted


def told_by_places(ground, paper, counted, told):
    """By two places a list: for each row what is told at it for the entry that counts, None where none does."""
    columns = {}
    for entry, rows, things in zip(paper, counted, told):
        column = columns.setdefault((entry[0], entry[1]), [None] * len(ground.rows))
        for row, thing in zip(rows, things):
            column[row] = thing
    return columns


def worths_by_places(ground, paper, counted, part):
    """By two places and row the worth of that part of the entry that counts."""
    told = [worths_along(ground, rows, entry[part]) for entry, rows in zip(paper, counted)]
    return told_by_places(ground, paper, counted, told)


def entry_fits(ground, entry):
    """Whether places, who and boxes of an entry are such of the two programs, wherever it counts."""
    p, q, condition, who, wait = entry
    if p < 0 or p >= len(ground.mine.program[2]) or q < 0 or q >= len(ground.yours.program[2]):
        return False
    return who in TURNS and all_known(ground.columns, condition) and all_known(ground.columns, wait)


def turn_fits(ground, entry):
    """Whether the nodes are of such kinds that those step, or end, that who tells."""
    first, second, who = ground.mine.kind_at(entry[0]), ground.yours.kind_at(entry[1]), entry[3]
    if who == "mine":
        return first in QUIET
    if who == "yours":
        return second in QUIET
    if who == "both":
        return first == second == "say" or (first in QUIET and second in QUIET)
    return first == second == "end"


class Turn:
    """What an entry whose turn fits does, row by row; at an end both stay."""

    def __init__(self, ground, waits, entry):
        p, q, who = entry[0], entry[1], entry[3]
        self.width = ground.width
        self.waits = waits
        self.here = waits[(p, q)]
        self.alone = who in ("mine", "yours")
        self.first = ground.mine.steps_at(p) if who in ("mine", "both") else ground.mine.stays_at(p)
        self.second = ground.yours.steps_at(q) if who in ("yours", "both") else ground.yours.stays_at(q)

    def behind(self, row):
        """The two places and the row behind one at which the entry counts; None where it isn't well there."""
        said, p, mine_number = self.first[row // self.width]
        heard, q, yours_number = self.second[row % self.width]
        if self.here[row] < 0 or said != heard or (p, q) not in self.waits:
            return None
        there = mine_number * self.width + yours_number
        wait = self.waits[(p, q)][there]
        if wait is None or (self.alone and wait >= self.here[row]):
            return None
        return ((p, q), there)


def entry_well(ground, waits, entry, rows):
    """Whether an entry is well at all the rows at which it counts."""
    if len(rows) == 0:
        return True
    if not turn_fits(ground, entry):
        return False
    turn = Turn(ground, waits, entry)
    for row in rows:
        if turn.behind(row) is None:
            return False
    return True


def begins_well(ground, waits):
    """Whether some entry counts at the beginning for each inputs."""
    if (0, 0) not in waits:
        return False
    return all([waits[(0, 0)][row] is not None for row in ground.beginnings()])


def all_fit(ground, paper):
    return all([entry_fits(ground, entry) for entry in paper])


def all_well(ground, paper, counted, waits):
    """Whether a paper is let by, all of whose entries fit."""
    if not begins_well(ground, waits):
        return False
    for entry, rows in zip(paper, counted):
        if not entry_well(ground, waits, entry, rows):
            return False
    return True


def paper_shows(one, other, paper):
    """Whether a paper is let by for a pair."""
    refuse_no_pair(one, other)
    ground = Ground(one, other)
    if not all_fit(ground, paper):
        return False
    counted = rows_counted(ground, paper)
    return all_well(ground, paper, counted, worths_by_places(ground, paper, counted, 4))


def entry_worths(one, other, paper, number):
    """The worths of both at which an entry counts, sorted."""
    refuse_no_pair(one, other)
    ground = Ground(one, other)
    places = (paper[number][0], paper[number][1])
    ahead = [entry for entry in paper[:number] if (entry[0], entry[1]) == places]
    counted = rows_counted(ground, ahead + [paper[number]])
    return [ground.worths_of(row) for row in counted[-1]]
