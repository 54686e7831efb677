"""Papers of likeness found by walks side by side, and inputs at which two runs part."""

from twinwalk.between import known_between, refuse_no_pair, said_alike
from twinwalk.errors import TooMany
from twinwalk.papers import QUIET
from twinwalk.runs import beginning_of, every_input, run_of, step_at

MOST_ENTRIES = 2000


class Stops:
    """The says and ends of a program, and to which of them steps that say nothing lead."""

    def __init__(self, program):
        self.program = program
        self.found = {}

    def stop_from(self, place, worths):
        """Place and worths of the next say or end from here on, None where none ever comes."""
        at, path = (place, tuple(worths)), []
        while at not in self.found:
            if self.program[2][at[0]][0] in QUIET:
                # None till a stop is found: so a path that comes upon itself leads to none.
                self.found[at] = None
                path.append(at)
                said, behind, changed = step_at(self.program, at[0], at[1])
                at = (behind, tuple(changed))
            else:
                self.found[at] = at
        for passed in path:
            self.found[passed] = self.found[at]
        return self.found[at]

    def first_stop(self, inputs):
        return self.stop_from(0, beginning_of(self.program, inputs))

    def next_stop(self, stop):
        """The stop behind a say."""
        said, place, worths = step_at(self.program, stop[0], stop[1])
        return self.stop_from(place, worths)

    def told_at(self, stop):
        """The number that is said at a stop, or the text "end", or "still"."""
        if stop is None:
            return "still"
        step = step_at(self.program, stop[0], stop[1])
        return "end" if step is None else step[0][0]


def head_of(heads, thing):
    """The one thing to which all that are joined with this one lead."""
    path = []
    while thing in heads:
        path.append(thing)
        thing = heads[thing]
    for passed in path:
        heads[passed] = thing
    return thing


def join_apart(heads, thing, another):
    """Joins two things; told is whether they were apart."""
    first, second = head_of(heads, thing), head_of(heads, another)
    if first == second:
        return False
    heads[first] = second
    return True


def stops_part(mine, yours, heads, here, there):
    """Whether runs part from two stops on, where joined stops are such from which they do not.

    Each turn joins stops that were apart, so that rounds of any lengths come to an end soon.
    """
    told = mine.told_at(here)
    while told == yours.told_at(there):
        if told in ("end", "still") or not join_apart(heads, ("mine", here), ("yours", there)):
            return False
        here, there = mine.next_stop(here), yours.next_stop(there)
        told = mine.told_at(here)
    return True


def first_parting(one, other):
    """The first inputs at which the runs of a pair part, None where there are none."""
    mine, yours, heads = Stops(one), Stops(other), {}
    for inputs in every_input(one):
        if stops_part(mine, yours, heads, mine.first_stop(inputs), yours.first_stop(inputs)):
            return inputs
    return None


def turn_at(one, other, p, q):
    """Whose turn it is at two places of walks that do not part."""
    first, second = one[2][p][0], other[2][q][0]
    if first == second == "end":
        return "end"
    if (first in QUIET) == (second in QUIET):
        return "both"
    return "mine" if first in QUIET else "yours"


def walk_behind(one, other, turn, at):
    """Places and worths of both behind a turn; an end stays where it is."""
    p, q, mine, yours = at
    if turn in ("mine", "both"):
        said, p, mine = step_at(one, p, mine)
    if turn in ("yours", "both"):
        said, q, yours = step_at(other, q, yours)
    return (p, q, tuple(mine), tuple(yours))


def walk_begins(one, other, inputs):
    return (0, 0, tuple(beginning_of(one, inputs)), tuple(beginning_of(other, inputs)))


def walks_of(one, other):
    """By all places and worths that walks come to, which do not part: the turn there, and those behind it."""
    walks = {}
    for inputs in every_input(one):
        at = walk_begins(one, other, inputs)
        while at not in walks:
            if len(walks) == MOST_ENTRIES:
                raise TooMany(f"more than {MOST_ENTRIES} places and worths are come to")
            turn = turn_at(one, other, at[0], at[1])
            walks[at] = (turn, walk_behind(one, other, turn, at))
            at = walks[at][1]
    return walks


def steps_alone(walks, at):
    """How many steps alone come ahead of the next step that is none, or of the end."""
    many = 0
    while walks[at][0] in ("mine", "yours"):
        at = walks[at][1]
        many += 1
    return many


def only_at(one, other, mine, yours):
    """A condition between that holds at these worths alone."""
    condition = ("yes",)
    for box, worth in known_between(one, other, mine, yours).items():
        condition = ("both", condition, ("same", box, ("number", worth)))
    return condition


def entry_at(one, other, walks, at):
    p, q, mine, yours = at
    return (p, q, only_at(one, other, mine, yours), walks[at][0], ("number", steps_alone(walks, at)))


def likeness(one, other):
    """A paper that is let by, or the first inputs at which the runs part."""
    refuse_no_pair(one, other)
    inputs = first_parting(one, other)
    if inputs is not None:
        return ("parted", inputs)
    walks = walks_of(one, other)
    return ("paper", [entry_at(one, other, walks, at) for at in sorted(walks)])


def alike_for(one, other, inputs):
    """How many numbers two runs say alike before they part; None where they do not part."""
    refuse_no_pair(one, other)
    return said_alike(run_of(one, inputs), run_of(other, inputs))
