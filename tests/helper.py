"""What several tests use: programs by chance, and the document's words followed step by step, however slowly."""

import itertools

from twinwalk.programs import program_of
from twinwalk.runs import every_input, step_from

A, B, C = ("box", "a"), ("box", "b"), ("box", "c")
YES, NO, END = ("yes",), ("not", ("yes",)), ("end",)
NOUGHT, ONE, TWO = ("number", 0), ("number", 1), ("number", 2)


def mine(name):
    return ("mine", name)


def yours(name):
    return ("yours", name)


def more(name, told=ONE):
    return ("plus", ("box", name), told)


BELOW = ("less", NOUGHT, ONE)
SAME = ("same", mine("a"), yours("a"))
SHORT = program_of([("a", 4)], ["a"], [("put", "a", more("a"), 1), ("say", A, 2), END])
LONG = program_of([("t", 4), ("a", 4)], ["a"],
                  [("put", "t", A, 1), ("put", "a", ("plus", ("box", "t"), ONE), 2), ("say", A, 3), ("test", YES, 4, 0),
                   END])
KEPT = ("both", SAME, ("same", yours("t"), yours("a")))
GOOD = [(0, 0, SAME, "yours", ONE), (0, 1, KEPT, "both", NOUGHT), (1, 2, SAME, "both", NOUGHT),
        (2, 3, YES, "yours", ONE), (2, 4, YES, "end", NOUGHT)]
# For each reason of [18] a paper for the short and the long one that is not let by.
BAD = [GOOD[1:], GOOD[:3] + GOOD[4:], GOOD[:4], [],
       [(0, 0, ("both", SAME, ("under", mine("a"), TWO)), "yours", ONE)] + GOOD[1:],
       [(0, 0, SAME, "yours", NOUGHT)] + GOOD[1:], GOOD[:4] + [(2, 4, YES, "end", BELOW)],
       GOOD[:2] + [(1, 2, YES, "both", NOUGHT)] + GOOD[3:], GOOD[:2] + [(1, 2, SAME, "mine", ONE)] + GOOD[3:],
       GOOD[:2] + [(1, 2, SAME, "yours", ONE)] + GOOD[3:], GOOD[:2] + [(1, 2, SAME, "end", ONE)] + GOOD[3:],
       GOOD + [(1, 3, YES, "both", NOUGHT)], GOOD + [(1, 2, NO, "nobody", NOUGHT)], GOOD + [(3, 0, NO, "end", NOUGHT)],
       GOOD + [(0, 5, NO, "end", NOUGHT)], GOOD + [(-1, 0, NO, "end", NOUGHT)], GOOD + [(0, -1, NO, "end", NOUGHT)],
       GOOD + [(1, 2, ("both", NO, ("same", mine("t"), ONE)), "both", NOUGHT)],
       GOOD + [(1, 2, NO, "both", ("plus", ONE, mine("t")))], GOOD + [(1, 2, NO, "both", ("box", "a"))],
       GOOD + [(1, 2, NO, "both", yours("ghost"))]]
PLAIN = program_of([("a", 3), ("b", 5)], ["a", "b"], [END])
NO_PAIRS = [program_of([("a", 3), ("b", 5), ("c", 2)], ["a", "b", "c"], [END]),
            program_of([("a", 3), ("b", 5)], ["a"], [END]),
            program_of([("a", 3), ("b", 5)], ["b"], [END]),
            program_of([("a", 3), ("b", 5)], [], [END]),
            program_of([("a", 3), ("c", 5)], ["a", "c"], [END]),
            program_of([("a", 3), ("b", 5)], ["b", "a"], [END]),
            program_of([("a", 3), ("b", 4)], ["a", "b"], [END]),
            program_of([("a", 4), ("b", 5)], ["a", "b"], [END]),
            program_of([("a", 5), ("b", 3)], ["a", "b"], [END]),
            program_of([], [], [END])]


def all_worths(program):
    return [list(worths) for worths in itertools.product(*[range(size) for name, size in program[0]])]


def begins(program, inputs):
    given = dict(zip(program[1], inputs))
    return [given.get(name, 0) for name, size in program[0]]


def reckoned(told, known):
    """The worth of a sum, or whether a condition holds; known has boxes by side and name."""
    kind = told[0]
    if kind == "number":
        return told[1]
    if kind == "yes":
        return True
    if kind not in ("plus", "less", "same", "under", "not", "both"):
        return known[told]
    parts = [reckoned(part, known) for part in told[1:]]
    return {"plus": lambda: parts[0] + parts[1], "less": lambda: parts[0] - parts[1],
            "same": lambda: parts[0] == parts[1], "under": lambda: parts[0] < parts[1],
            "not": lambda: not parts[0], "both": lambda: parts[0] and parts[1]}[kind]()


def known_of(one, other, first, second):
    known = {("mine", name): worth for (name, size), worth in zip(one[0], first)}
    known.update({("yours", name): worth for (name, size), worth in zip(other[0], second)})
    return known


def entry_counting(one, other, paper, p, q, first, second):
    """The number of the entry that counts, None where none does."""
    known = known_of(one, other, first, second)
    for number, entry in enumerate(paper):
        if entry[:2] == (p, q) and reckoned(entry[2], known):
            return number
    return None


def stepped(one, other, who, p, q, first, second):
    if who in ("mine", "both"):
        said, p, first = step_from(one, p, first)
    if who in ("yours", "both"):
        said, q, second = step_from(other, q, second)
    return (p, q, first, second)


def well_as_told(one, other, paper, entry, first, second):
    """[17] word by word."""
    p, q, condition, who, wait = entry
    kinds, quiet = (one[2][p][0], other[2][q][0]), ("put", "test")
    here = reckoned(wait, known_of(one, other, first, second))
    if here < 0:
        return False
    if who == "end":
        return kinds == ("end", "end")
    if who == "mine" and kinds[0] not in quiet or who == "yours" and kinds[1] not in quiet:
        return False
    if who == "both" and not (kinds[0] in quiet and kinds[1] in quiet):
        if kinds != ("say", "say") or step_from(one, p, first)[0] != step_from(other, q, second)[0]:
            return False
    behind = stepped(one, other, who, p, q, first, second)
    number = entry_counting(one, other, paper, *behind)
    if number is None:
        return False
    return who == "both" or reckoned(paper[number][4], known_of(one, other, behind[2], behind[3])) < here


def shows_as_told(one, other, paper):
    """[18] word by word, of a paper whose places, boxes and who are good ones."""
    for inputs in every_input(one):
        if entry_counting(one, other, paper, 0, 0, begins(one, inputs), begins(other, inputs)) is None:
            return False
    for number, entry in enumerate(paper):
        for first in all_worths(one):
            for second in all_worths(other):
                if entry_counting(one, other, paper, entry[0], entry[1], first, second) == number:
                    if not well_as_told(one, other, paper, entry, first, second):
                        return False
    return True


def turn_as_told(one, other, p, q, first, second):
    """[20]: whose turn it is, "end", or "parted"."""
    kinds = (one[2][p][0], other[2][q][0])
    stands = [kind in ("say", "end") for kind in kinds]
    if kinds == ("say", "say"):
        return "both" if step_from(one, p, first)[0] == step_from(other, q, second)[0] else "parted"
    if kinds == ("end", "end"):
        return "end"
    if stands == [True, True]:
        return "parted"
    return {(True, False): "yours", (False, True): "mine", (False, False): "both"}[tuple(stands)]


def walk_as_told(one, other, inputs):
    """[20] word by word: whether they part, and the list of all places, worths and turns come to."""
    at, met = (0, 0, begins(one, inputs), begins(other, inputs)), []
    while True:
        again = [number for number, (before, turn) in enumerate(met) if before == at]
        if again:
            return all(turn in ("mine", "yours") for before, turn in met[again[0]:]), met
        turn = turn_as_told(one, other, *at)
        met.append((at, turn))
        if turn in ("parted", "end"):
            return turn == "parted", met
        at = stepped(one, other, turn, *at)


def some_sum(dice, boxes, depth):
    if depth == 0 or dice.random() < 0.4:
        return dice.choice(boxes) if boxes and dice.random() < 0.7 else ("number", dice.randrange(4))
    return (dice.choice(("plus", "less")), some_sum(dice, boxes, depth - 1), some_sum(dice, boxes, depth - 1))


def some_condition(dice, boxes, depth):
    kind = dice.choice(("yes", "same", "under", "not", "both")) if depth else dice.choice(("same", "under"))
    if kind == "yes":
        return YES
    if kind == "not":
        return ("not", some_condition(dice, boxes, depth - 1))
    if kind == "both":
        return ("both", some_condition(dice, boxes, depth - 1), some_condition(dice, boxes, depth - 1))
    return (kind, some_sum(dice, boxes, 1), some_sum(dice, boxes, 1))


def some_node(dice, names, many):
    boxes = [("box", name) for name in names]
    kind = dice.choice(("put", "put", "say", "test", "test", "end"))
    if kind == "end":
        return END
    if kind == "put" and names:
        return ("put", dice.choice(names), some_sum(dice, boxes, 2), dice.randrange(many))
    if kind == "say":
        return ("say", some_sum(dice, boxes, 1), dice.randrange(many))
    return ("test", some_condition(dice, boxes, 1), dice.randrange(many), dice.randrange(many))


def some_program(dice, inputs, others):
    """Inputs and others are lists of (name, size); the boxes come in any order."""
    boxes = list(inputs) + list(others)
    dice.shuffle(boxes)
    many = dice.randrange(1, 7)
    nodes = [some_node(dice, [name for name, size in boxes], many) for at in range(many)]
    return program_of(boxes, [name for name, size in inputs], nodes)


def like_program(dice, program):
    """A program that says the same: quiet nodes put between, and the nodes ordered anew."""
    boxes, inputs, nodes = program
    boxes, nodes = list(boxes) + [("zz", 2)], list(nodes)
    for added in range(dice.randrange(4)):
        at, number = dice.randrange(len(nodes)), len(nodes)
        quiet = dice.choice((("put", "zz", ONE, number), ("test", YES, number, 0), ("put", "zz", ("box", "zz"), number)))
        nodes.append(nodes[at])
        nodes[at] = quiet
    order = [0] + dice.sample(range(1, len(nodes)), len(nodes) - 1)
    return program_of(boxes, inputs, [led_anew(nodes[old], order) for old in order])


def led_anew(node, order):
    leads = {"put": (3,), "say": (2,), "test": (2, 3), "end": ()}[node[0]]
    return tuple(order.index(part) if at in leads else part for at, part in enumerate(node))


def some_pair(dice):
    """Two programs of the same inputs, alike about every other time."""
    inputs = [(name, dice.randrange(1, 4)) for name in "ab"[:dice.randrange(3)]]
    one = some_program(dice, inputs, [("c", 2)][:dice.randrange(2)])
    if dice.random() < 0.6:
        return one, like_program(dice, one)
    return one, some_program(dice, inputs, [("d", 3)][:dice.randrange(2)])


def some_paper(dice):
    """A pair and a paper of good places and boxes, of two entries a pair of places at most."""
    one, other = some_pair(dice)
    boxes = [mine(name) for name, size in one[0]] + [yours(name) for name, size in other[0]]
    places = [(p, q) for p in range(len(one[2])) for q in range(len(other[2]))]
    paper = [(p, q, some_condition(dice, boxes, 2), dice.choice(("mine", "yours", "both", "end")),
              some_sum(dice, boxes, 1)) for p, q in places + places if dice.random() < 0.5]
    return one, other, paper


def some_change(dice, one, other, paper):
    """The paper with one thing changed by chance."""
    boxes = [mine(name) for name, size in one[0]] + [yours(name) for name, size in other[0]]
    changed = list(paper)
    at = dice.randrange(len(changed))
    p, q, condition, who, wait = changed[at]
    kind = dice.randrange(7)
    if kind == 0:
        changed[at] = (p, q, condition, dice.choice(("mine", "yours", "both", "end")), wait)
    elif kind == 1:
        changed[at] = (p, q, condition, who, ("number", max(wait[1] + dice.choice((-1, 1, 2)), 0)))
    elif kind == 2:
        changed[at] = (p, q, YES, who, wait)
    elif kind == 3:
        changed[at] = (p, q, condition, who, some_sum(dice, boxes, 1))
    elif kind == 4:
        del changed[at]
    elif kind == 5:
        changed.insert(at, (p, q, some_condition(dice, boxes, 2), who, wait))
    else:
        place = (dice.randrange(len(one[2])), dice.randrange(len(other[2])))
        changed.insert(0, place + (some_condition(dice, boxes, 1), dice.choice(("mine", "yours", "both")), wait))
    return changed


def turned(told):
    """A sum or condition with mine and yours exchanged everywhere within."""
    if told[0] in ("mine", "yours"):
        return (turned_side(told[0]), told[1])
    return tuple(turned(part) if isinstance(part, tuple) else part for part in told)


def turned_side(side):
    return {"mine": "yours", "yours": "mine"}.get(side, side)


def turned_about(paper):
    return [(q, p, turned(condition), turned_side(who), turned(wait)) for p, q, condition, who, wait in paper]


def line(many, boxes, inputs, last=END):
    """A program of so many quiet nodes in a line and a last one."""
    return program_of(boxes, inputs, [("test", YES, at + 1, 0) for at in range(many)] + [last])
