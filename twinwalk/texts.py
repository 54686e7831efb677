"""Programs written as texts, and read again."""

from twinwalk.errors import NoRow
from twinwalk.picks import picked_program

LETTERS = "abcdefghijklmnopqrstuvwxyz"
FIGURES = "0123456789"
MOST_FIGURES = 30
MOST_LETTERS = 8
SUM_SIGNS = {"plus": "+", "less": "-"}
SIGN_SUMS = {"+": "plus", "-": "less"}
SIGN_TESTS = {"=": "same", "<": "under"}
# The kinds of words behind a row's first one.
FORMS = {
    "box": ("name", "number"),
    "input": ("name",),
    "put": ("name", "sum", "number"),
    "say": ("sum", "number"),
    "test": ("condition", "number", "number"),
    "pick": ("name", "number"),
    "end": (),
}
# Rows come in this order: boxes, inputs, nodes.
RANKS = {"box": 0, "input": 1}
NODE_RANK = 2


def written_sum(sum_told):
    if sum_told[0] == "number":
        return str(sum_told[1])
    if sum_told[0] == "box":
        return sum_told[1]
    return f"({written_sum(sum_told[1])}{SUM_SIGNS[sum_told[0]]}{written_sum(sum_told[2])})"


def written_condition(condition):
    if condition[0] == "yes":
        return "yes"
    if condition[0] == "not":
        return f"!{written_condition(condition[1])}"
    if condition[0] == "both":
        return "{" + written_condition(condition[1]) + "&" + written_condition(condition[2]) + "}"
    sign = "=" if condition[0] == "same" else "<"
    return f"{written_sum(condition[1])}{sign}{written_sum(condition[2])}"


def written_word(kind, told):
    if kind == "sum":
        return written_sum(told)
    return written_condition(told) if kind == "condition" else str(told)


def written_row(row):
    """A row of a tuple: its first word, and what is told behind it."""
    return " ".join([row[0]] + [written_word(kind, told) for kind, told in zip(FORMS[row[0]], row[1:])])


def written_text(program):
    """The program as rows, parted by line feeds."""
    boxes, inputs, nodes = program
    rows = [("box", name, size) for name, size in boxes] + [("input", name) for name in inputs] + nodes
    return "\n".join([written_row(row) for row in rows])


class Reader:
    """A word and how far it is read."""

    def __init__(self, word):
        self.word = word
        self.place = 0

    def sign(self):
        """The next sign, or the text without signs at the end."""
        return self.word[self.place:self.place + 1]

    def taken(self, sign):
        """Whether the next sign is this one; if so it is read."""
        if self.sign() != sign:
            return False
        self.place += 1
        return True

    def due(self, sign):
        if not self.taken(sign):
            raise NoRow(f"no {sign} where one is due")

    def stretch(self, signs):
        """The longest text of these signs that comes next."""
        begun = self.place
        while self.sign() != "" and self.sign() in signs:
            self.place += 1
        return self.word[begun:self.place]

    def number(self):
        figures = self.stretch(FIGURES)
        if figures == "" or len(figures) > MOST_FIGURES or (figures[0] == "0" and figures != "0"):
            raise NoRow("no number where one is due")
        return int(figures)

    def name(self):
        letters = self.stretch(LETTERS)
        if letters == "" or len(letters) > MOST_LETTERS:
            raise NoRow("no name where one is due")
        return letters


def read_atom(reader):
    """A number or a box."""
    if reader.sign() != "" and reader.sign() in FIGURES:
        return ("number", reader.number())
    return ("box", reader.name())


# Sums and conditions are read with a list of what is begun, so that no word is too deep.


def read_sum(reader):
    begun = []
    while True:
        while reader.taken("("):
            begun.append(None)
        told = read_atom(reader)
        while len(begun) > 0 and begun[-1] is not None:
            reader.due(")")
            told = begun.pop() + (told,)
        if len(begun) == 0:
            return told
        if reader.sign() not in SIGN_SUMS:
            raise NoRow("no sign between two sums")
        begun[-1] = (SIGN_SUMS[reader.sign()], told)
        reader.place += 1


def read_test(reader):
    """A condition that has no other one within."""
    told = read_sum(reader)
    if reader.sign() in SIGN_TESTS:
        kind = SIGN_TESTS[reader.sign()]
        reader.place += 1
        return (kind, told, read_sum(reader))
    if told != ("box", "yes"):
        raise NoRow("no condition where one is due")
    return ("yes",)


def read_condition(reader):
    begun = []
    while True:
        while reader.sign() in ("!", "{"):
            begun.append(("not",) if reader.sign() == "!" else None)
            reader.place += 1
        told = read_test(reader)
        while len(begun) > 0 and begun[-1] is not None:
            if begun[-1] != ("not",):
                reader.due("}")
            told = begun.pop() + (told,)
        if len(begun) == 0:
            return told
        reader.due("&")
        begun[-1] = ("both", told)


def read_word(kind, word):
    """What a word tells that is to be of a kind."""
    reader = Reader(word)
    if kind == "name":
        told = reader.name()
    elif kind == "number":
        told = reader.number()
    else:
        told = read_sum(reader) if kind == "sum" else read_condition(reader)
    if reader.place != len(word):
        raise NoRow("a word goes on where it should end")
    return told


def read_row(row):
    """A tuple of a row's first word and of what is told behind it."""
    words = row.split(" ")
    kinds = FORMS.get(words[0])
    if kinds is None or len(words) != len(kinds) + 1:
        raise NoRow("a row of none of the forms")
    return (words[0],) + tuple([read_word(kind, word) for kind, word in zip(kinds, words[1:])])


def read_program(text):
    """The program of a text, with picks perhaps."""
    boxes, inputs, nodes, least = [], [], [], 0
    for row in text.split("\n"):
        told = read_row(row)
        rank = RANKS.get(told[0], NODE_RANK)
        if rank < least:
            raise NoRow("a box or an input behind what it should be ahead of")
        least = rank
        if rank == 0:
            boxes.append((told[1], told[2]))
        elif rank == 1:
            inputs.append(told[1])
        else:
            nodes.append(told)
    return picked_program(boxes, inputs, nodes)
