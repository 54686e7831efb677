"""Two programs: their pairing, sums and conditions between their boxes, and whether their runs part."""

from twinwalk.errors import NoPair
from twinwalk.programs import holds_by, known_worths, refuse_box_worths, refuse_unknown, worth_by
from twinwalk.runs import input_sizes, run_of

YES = ("yes",)


def refuse_no_pair(one, other):
    if one[1] != other[1] or input_sizes(one) != input_sizes(other):
        raise NoPair("the two programs have not the same inputs")


def known_between(one, other, mine, yours):
    """The worths of both by the sums that tell a box alone."""
    known = known_worths(one, mine, "mine")
    known.update(known_worths(other, yours, "yours"))
    return known


def known_for_both(one, other, mine, yours, told):
    """The known worths, behind the refusals that are due, in their order."""
    refuse_no_pair(one, other)
    refuse_box_worths(one, mine)
    refuse_box_worths(other, yours)
    known = known_between(one, other, mine, yours)
    refuse_unknown(known, told)
    return known


def sum_between(one, other, mine, yours, sum_told):
    """The worth of a sum between by the worths of both, perhaps below 0."""
    return worth_by(known_for_both(one, other, mine, yours, sum_told), sum_told)


def holds_between(one, other, mine, yours, condition):
    """Whether a condition between holds by the worths of both."""
    return holds_by(known_for_both(one, other, mine, yours, condition), condition)


def runs_part(one, other, inputs):
    """Whether the runs for these inputs' worths part."""
    refuse_no_pair(one, other)
    return said_alike(run_of(one, inputs), run_of(other, inputs)) is not None


def said_alike(run, another):
    """How many numbers two runs say alike before they part; None where they do not part."""
    many = numbers_that_settle(run, another)
    first, second = first_said(run, many), first_said(another, many)
    for at, (number, heard) in enumerate(zip(first, second)):
        if number != heard:
            return at
    if len(first) != len(second) or (run[1] is None) != (another[1] is None):
        return min(len(first), len(second))
    return None


def numbers_that_settle(run, another):
    """So many numbers that runs which say these alike say all alike.

    Two rows that come round, alike for as long as both rounds together, are alike for ever.
    """
    rounds = [told[1] for told in (run, another) if told[1] is not None]
    return max(len(run[0]), len(another[0])) + sum([len(told) for told in rounds])


def first_said(run, many):
    """The first so many numbers that are said in a run, or all where there are fewer."""
    ahead, around, steps = run
    said = list(ahead)
    while around and len(said) < many:
        said.extend(around)
    return said[:many]


def joined_by(word, parts):
    """One thing of all the parts, each two joined by a word; by halves, so that few stand within one another."""
    if len(parts) == 1:
        return parts[0]
    half = len(parts) // 2
    return (word, joined_by(word, parts[:half]), joined_by(word, parts[half:]))


def all_of(conditions):
    """A condition that holds where each of these does."""
    return joined_by("both", conditions)


def any_of(conditions):
    """A condition that holds where some of these does."""
    if len(conditions) == 1:
        return conditions[0]
    return ("not", all_of([("not", condition) for condition in conditions]))
