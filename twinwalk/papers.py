"""Papers: what holds between two programs, places by places, and whether a paper is let by."""

from twinwalk.between import refuse_no_pair
from twinwalk.programs import all_known, box_sizes
from twinwalk.runs import beginning_of, every_input, every_worths, step_at

TURNS = ("mine", "yours", "both", "end")
QUIET = ("put", "test")


class Side:
    """One of two programs with all its worths, numbered in their order."""

    def __init__(self, program):
        self.program = program
        self.worths = every_worths(box_sizes(program))
        self.numbers = {tuple(worths): number for number, worths in enumerate(self.worths)}
        self.steps = {}

    def number_of(self, worths):
        return self.numbers[tuple(worths)]

    def kind_at(self, place):
        return self.program[2][place][0]

    def steps_at(self, place):
        """By the worths' numbers the step from a place that is no end: what is said, place and number behind."""
        if place not in self.steps:
            told = [step_at(self.program, place, worths) for worths in self.worths]
            self.steps[place] = [(said, to, self.number_of(worths)) for said, to, worths in told]
        return self.steps[place]

    def stays_at(self, place):
        """What steps_at tells, of a program that takes no step."""
        return [([], place, number) for number in range(len(self.worths))]


class Ground:
    """All worths of both programs: a row is the number of such, mine and yours."""

    def __init__(self, one, other):
        self.mine = Side(one)
        self.yours = Side(other)
        self.width = len(self.yours.worths)
        self.rows = list(range(len(self.mine.worths) * self.width))
        self.columns = {}
        for at, (name, size) in enumerate(one[0]):
            self.columns[("mine", name)] = [self.mine.worths[row // self.width][at] for row in self.rows]
        for at, (name, size) in enumerate(other[0]):
            self.columns[("yours", name)] = [self.yours.worths[row % self.width][at] for row in self.rows]

    def row_of(self, mine, yours):
        return self.mine.number_of(mine) * self.width + self.yours.number_of(yours)

    def worths_of(self, row):
        return (list(self.mine.worths[row // self.width]), list(self.yours.worths[row % self.width]))

    def beginnings(self):
        """The rows at which the runs begin, for all inputs in their order."""
        one, other = self.mine.program, self.yours.program
        return [self.row_of(beginning_of(one, inputs), beginning_of(other, inputs)) for inputs in every_input(one)]


# A paper is asked at all rows, entry by entry, so sums and conditions are reckoned for many rows at once.


def worths_along(ground, rows, sum_told):
    """The worths of a sum between, one for each of the rows."""
    if sum_told[0] == "number":
        return [sum_told[1]] * len(rows)
    if sum_told[0] not in ("plus", "less"):
        column = ground.columns[sum_told]
        return [column[row] for row in rows]
    first, second = worths_along(ground, rows, sum_told[1]), worths_along(ground, rows, sum_told[2])
    if sum_told[0] == "plus":
        return [x + y for x, y in zip(first, second)]
    return [x - y for x, y in zip(first, second)]


def rows_where(ground, rows, condition):
    """Those of the rows at which a condition between holds, in their order."""
    if condition[0] == "yes":
        return rows
    if condition[0] == "not":
        return rows_without(rows, rows_where(ground, rows, condition[1]))
    if condition[0] == "both":
        return rows_where(ground, rows_where(ground, rows, condition[1]), condition[2])
    first, second = worths_along(ground, rows, condition[1]), worths_along(ground, rows, condition[2])
    if condition[0] == "same":
        return [row for row, x, y in zip(rows, first, second) if x == y]
    return [row for row, x, y in zip(rows, first, second) if x < y]


def rows_without(rows, taken):
    gone = set(taken)
    return [row for row in rows if row not in gone]


def rows_counted(ground, paper):
    """For each entry the rows at which it counts, rising."""
    free, counted = {}, []
    for entry in paper:
        places = (entry[0], entry[1])
        rows = free.get(places, ground.rows)
        taken = rows_where(ground, rows, entry[2])
        free[places] = rows_without(rows, taken)
        counted.append(taken)
    return counted


def column_by_places(ground, paper, counted, part):
    """By two places a list: for each row the worth of that part of the entry that counts, None where none does."""
    told = {}
    for entry, rows in zip(paper, counted):
        column = told.setdefault((entry[0], entry[1]), [None] * len(ground.rows))
        for row, worth in zip(rows, worths_along(ground, rows, entry[part])):
            column[row] = worth
    return told


def entry_fits(ground, entry):
    """Whether places, who and boxes of an entry are such of the two programs, wherever it counts."""
    p, q, condition, who, wait = entry
    if p < 0 or p >= len(ground.mine.program[2]) or q < 0 or q >= len(ground.yours.program[2]):
        return False
    return who in TURNS and all_known(ground.columns, condition) and all_known(ground.columns, wait)


def turn_fits(ground, entry):
    """Whether the nodes are of such kinds that those step, or end, that who tells."""
    first, second, who = ground.mine.kind_at(entry[0]), ground.yours.kind_at(entry[1]), entry[3]
    if who == "mine":
        return first in QUIET
    if who == "yours":
        return second in QUIET
    if who == "both":
        return first == second == "say" or (first in QUIET and second in QUIET)
    return first == second == "end"


def steps_by(ground, entry):
    """The steps of both by an entry whose turn fits and is no end: by mine's numbers, and by yours'."""
    p, q, who = entry[0], entry[1], entry[3]
    first = ground.mine.stays_at(p) if who == "yours" else ground.mine.steps_at(p)
    second = ground.yours.stays_at(q) if who == "mine" else ground.yours.steps_at(q)
    return (first, second)


def well_behind(ground, waits, entry, rows):
    """Whether from each of the rows both say the same, some entry counts behind it, and waits less if it must."""
    first, second = steps_by(ground, entry)
    here, alone = waits[(entry[0], entry[1])], entry[3] != "both"
    for row in rows:
        said, mine_place, mine_number = first[row // ground.width]
        heard, yours_place, yours_number = second[row % ground.width]
        if said != heard or (mine_place, yours_place) not in waits:
            return False
        there = waits[(mine_place, yours_place)][mine_number * ground.width + yours_number]
        if there is None or (alone and there >= here[row]):
            return False
    return True


def entry_well(ground, waits, entry, rows):
    """Whether an entry is well at all the rows at which it counts."""
    if len(rows) == 0:
        return True
    here = waits[(entry[0], entry[1])]
    if not turn_fits(ground, entry) or min([here[row] for row in rows]) < 0:
        return False
    return entry[3] == "end" or well_behind(ground, waits, entry, rows)


def begins_well(ground, waits):
    """Whether some entry counts at the beginning for each inputs."""
    if (0, 0) not in waits:
        return False
    return all([waits[(0, 0)][row] is not None for row in ground.beginnings()])


def paper_shows(one, other, paper):
    """Whether a paper is let by for a pair."""
    refuse_no_pair(one, other)
    ground = Ground(one, other)
    if not all([entry_fits(ground, entry) for entry in paper]):
        return False
    counted = rows_counted(ground, paper)
    waits = column_by_places(ground, paper, counted, 4)
    if not begins_well(ground, waits):
        return False
    for entry, rows in zip(paper, counted):
        if not entry_well(ground, waits, entry, rows):
            return False
    return True


def entry_worths(one, other, paper, number):
    """The worths of both at which an entry counts, sorted."""
    refuse_no_pair(one, other)
    ground = Ground(one, other)
    places = (paper[number][0], paper[number][1])
    ahead = [entry for entry in paper[:number] if (entry[0], entry[1]) == places]
    counted = rows_counted(ground, ahead + [paper[number]])
    return [ground.worths_of(row) for row in counted[-1]]
