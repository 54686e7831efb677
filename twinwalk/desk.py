"""The desk: it is told programs row by row and asked of them, and answers each row by a text."""

from twinwalk.errors import NoForm, NoneYet, NoPicks, NoRow
from twinwalk.findings import likeness
from twinwalk.makeovers import exchanged_puts, fitted_program, split_node, told_over
from twinwalk.paying import steps_told
from twinwalk.picks import within_told
from twinwalk.runs import run_of
from twinwalk.texts import read_program, read_word

MOST_FIGURES = 6
LEAST_TIMES = 2
MOST_TIMES = 8
# How many numbers stand behind a row's first word, at least and at most; None: any count.
COUNTS = {
    "clear": (0, 0),
    "one": (0, 0),
    "other": (0, 0),
    "turn": (0, 0),
    "run": (0, None),
    "like": (0, 0),
    "steps": (0, 0),
    "within": (0, 0),
    "split": (1, None),
    "over": (2, 2),
    "exchange": (1, 1),
    "fit": (0, 0),
}


def number_told(word):
    """The number of a row's word."""
    if len(word) > MOST_FIGURES:
        raise NoForm("a number of too many figures")
    try:
        return read_word("number", word)
    except NoRow:
        raise NoForm("no number where one is due") from None


def row_told(row):
    """A row's first word, and the list of the numbers behind it."""
    word, *told = row.split(" ")
    if word not in COUNTS:
        raise NoForm("a row of no form")
    least, most = COUNTS[word]
    if len(told) < least or (most is not None and len(told) > most):
        raise NoForm("a row of no form")
    numbers = [number_told(figures) for figures in told]
    if word == "over" and not LEAST_TIMES <= numbers[1] <= MOST_TIMES:
        raise NoForm("a number of times that is none")
    return (word, numbers)


def answer_of(parts):
    return " ".join([str(part) for part in parts])


def nodes_answer(program):
    return answer_of(["nodes", len(program[2])])


def refuse_none_yet(programs):
    for program in programs:
        if program is None:
            raise NoneYet("a program that is asked for isn't there yet")


def refuse_picks(programs):
    for program in programs:
        if any([node[0] == "pick" for node in program[2]]):
            raise NoPicks("a program that is asked has a pick")


def first_plain(desk):
    """The first program, which has no picks."""
    refuse_none_yet([desk.one])
    refuse_picks([desk.one])
    return desk.one


def both_plain(desk):
    """Both programs, which have no picks."""
    refuse_none_yet([desk.one, desk.other])
    refuse_picks([desk.one, desk.other])
    return (desk.one, desk.other)


def clear_rows(desk, numbers):
    desk.rows = []
    return "ok"


def read_one(desk, numbers):
    desk.one = read_program("\n".join(desk.rows))
    return nodes_answer(desk.one)


def read_other(desk, numbers):
    desk.other = read_program("\n".join(desk.rows))
    return nodes_answer(desk.other)


def turn_about(desk, numbers):
    refuse_none_yet([desk.one, desk.other])
    desk.one, desk.other = desk.other, desk.one
    return "ok"


def run_told(desk, numbers):
    ahead, around, steps = run_of(first_plain(desk), numbers)
    return answer_of(ahead + (["ends"] if around is None else ["round"] + around))


def like_told(desk, numbers):
    one, other = both_plain(desk)
    answer, told = likeness(one, other)
    return answer_of(["like", len(told)] if answer == "paper" else [answer] + told)


def steps_answer(desk, numbers):
    one, other = both_plain(desk)
    answer, told = steps_told(one, other)
    return "no more" if answer == "paper" else answer_of([answer] + told)


def within_answer(desk, numbers):
    refuse_none_yet([desk.one, desk.other])
    told = within_told(desk.one, desk.other)
    if told[0] == "within":
        return "within"
    answer, inputs, said, end = told
    return answer_of([answer] + inputs + [":"] + list(said) + [end])


def made_over(desk, told):
    """A made-over program is the second one then."""
    desk.other, paper = told
    return nodes_answer(desk.other)


def split_told(desk, numbers):
    return made_over(desk, split_node(first_plain(desk), numbers[0], numbers[1:]))


def over_told(desk, numbers):
    return made_over(desk, told_over(first_plain(desk), numbers[0], numbers[1]))


def exchange_told(desk, numbers):
    return made_over(desk, exchanged_puts(first_plain(desk), numbers[0]))


def fit_told(desk, numbers):
    return made_over(desk, fitted_program(first_plain(desk)))


DEEDS = {
    "clear": clear_rows,
    "one": read_one,
    "other": read_other,
    "turn": turn_about,
    "run": run_told,
    "like": like_told,
    "steps": steps_answer,
    "within": within_answer,
    "split": split_told,
    "over": over_told,
    "exchange": exchange_told,
    "fit": fit_told,
}


class Desk:
    """A desk with rows that are told, and a first and a second program."""

    def __init__(self):
        self.rows = []
        self.one = None
        self.other = None

    def say(self, row):
        """The answer to a row."""
        if "\n" in row:
            raise NoForm("a row with a line feed")
        if row.startswith("row "):
            self.rows.append(row[4:])
            return "ok"
        word, numbers = row_told(row)
        deed = DEEDS[word]
        return deed(self, numbers)
