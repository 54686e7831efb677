"""Papers turned about, and put behind one another."""

from twinwalk.between import refuse_no_pair
from twinwalk.errors import NoPaper
from twinwalk.findings import likeness
from twinwalk.papers import paper_shows
from twinwalk.programs import PARTED

OPPOSITE = {"mine": "yours", "yours": "mine"}


def turned_side(told):
    return OPPOSITE.get(told, told)


def turned_within(told):
    """A sum or condition with mine and yours exchanged, but in the boxes' names."""
    if told[0] in PARTED:
        return (told[0],) + tuple([turned_within(part) for part in told[1:]])
    return (turned_side(told[0]),) + told[1:]


def turned_paper(paper):
    """The paper for the two programs turned about."""
    return [(q, p, turned_within(condition), turned_side(who), turned_within(wait))
            for p, q, condition, who, wait in paper]


def put_behind(first, second, third, one_paper, other_paper):
    """A paper for the first and the third program, of papers that are let by for each two neighbours."""
    refuse_no_pair(first, second)
    refuse_no_pair(second, third)
    if not paper_shows(first, second, one_paper) or not paper_shows(second, third, other_paper):
        raise NoPaper("a paper is not let by")
    # Both papers show that the first and the third one never part, so that a paper is told.
    answer, paper = likeness(first, third)
    return paper
