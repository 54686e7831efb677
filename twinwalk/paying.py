"""Papers of steps: by their credits the second program takes no more steps than the first one."""

from twinwalk.between import refuse_no_pair
from twinwalk.findings import entry_at, first_parting, walk_begins, walks_of
from twinwalk.papers import Ground, Turn, all_fit, all_well, rows_counted, worths_by_places
from twinwalk.programs import all_known
from twinwalk.runs import every_input

# By how much mine's steps ahead of yours grow by a turn.
GAINS = {"mine": 1, "yours": -1, "both": 0, "end": 0}


def steps_shown(one, other, paper):
    """Whether a paper of steps is let by for a pair."""
    refuse_no_pair(one, other)
    ground = Ground(one, other)
    plain = [entry[:5] for entry in paper]
    if not all_fit(ground, plain) or not all([all_known(ground.columns, entry[5]) for entry in paper]):
        return False
    counted = rows_counted(ground, plain)
    waits = worths_by_places(ground, plain, counted, 4)
    return all_well(ground, plain, counted, waits) and all_paid(ground, paper, counted, waits)


def all_paid(ground, paper, counted, waits):
    """Whether the credits do what is asked of them, in a paper that is let by without them."""
    purses = worths_by_places(ground, paper, counted, 5)
    if max([purses[(0, 0)][row] for row in ground.beginnings()]) > 0:
        return False
    for entry, rows in zip(paper, counted):
        if len(rows) > 0 and not entry_paid(Turn(ground, waits, entry), purses, entry, rows):
            return False
    return True


def entry_paid(turn, purses, entry, rows):
    """Whether from none of the rows, at which an entry counts, one comes to more credit than is there."""
    here, gain = purses[(entry[0], entry[1])], GAINS[entry[3]]
    for row in rows:
        places, there = turn.behind(row)
        if here[row] < 0 or purses[places][there] > here[row] + gain:
            return False
    return True


def debts_of(walks):
    """By places and worths of walks how far yours' steps get ahead of mine's from there on, None if ever farther."""
    debts = {}
    for at in walks:
        owe_along(walks, debts, at)
    return debts


def owe_along(walks, debts, at):
    """Tells the debts of all that is come to from here and is not told yet."""
    path = []
    while at not in debts:
        debts[at] = 0
        path.append(at)
        at = walks[at][1]
    around = path[path.index(at):] if at in path else []
    debt = debts[at]
    if sum([GAINS[walks[met][0]] for met in around]) < 0:
        debt = None
    # The round is gone twice: the first time its head's debt is only looked for.
    for met in reversed(path + around):
        if debt is not None:
            debt = max(0, debt - GAINS[walks[met][0]])
        debts[met] = debt


def steps_told(one, other):
    """A paper of steps that is let by, or the first inputs that part the runs, or at which yours takes more steps."""
    refuse_no_pair(one, other)
    inputs = first_parting(one, other)
    if inputs is not None:
        return ("parted", inputs)
    walks = walks_of(one, other)
    debts = debts_of(walks)
    for inputs in every_input(one):
        if debts[walk_begins(one, other, inputs)] != 0:
            return ("more", inputs)
    return ("paper", [entry_at(one, other, walks, at) + (("number", debts[at]),) for at in sorted(walks)])
