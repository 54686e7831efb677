"""Programs, and what their sums and conditions come to by the boxes' worths."""

from twinwalk.errors import NoProgram, NoWorths

# What has sums or conditions within, and what has none and names no box.
PARTED = ("plus", "less", "same", "under", "not", "both")
NAMELESS = ("number", "yes")


def program_of(boxes, inputs, nodes):
    """A program, made of the three lists; picks are looked through like other nodes."""
    refuse_boxes(boxes)
    refuse_inputs(boxes, inputs)
    refuse_nodes(boxes, nodes)
    return (list(boxes), list(inputs), list(nodes))


def refuse_boxes(boxes):
    for name, size in boxes:
        if size < 1:
            raise NoProgram(f"the size of {name} is below 1")
    names = [name for name, size in boxes]
    if len(set(names)) != len(names):
        raise NoProgram("a box is there twice")


def refuse_inputs(boxes, inputs):
    names = [name for name, size in boxes]
    for name in inputs:
        if name not in names:
            raise NoProgram(f"the input {name} is no box")
    if len(set(inputs)) != len(inputs):
        raise NoProgram("an input is there twice")


def refuse_nodes(boxes, nodes):
    if len(nodes) == 0:
        raise NoProgram("there are no nodes")
    known = {("box", name): size for name, size in boxes}
    for node in nodes:
        for lead in leads_of(node):
            if lead < 0 or lead >= len(nodes):
                raise NoProgram(f"a node leads to {lead}, which is none")
        for told in told_by(node):
            refuse_unknown(known, told)


def leads_of(node):
    """The numbers of the nodes to which a node leads."""
    if node[0] == "end":
        return []
    if node[0] == "put":
        return [node[3]]
    if node[0] in ("say", "pick"):
        return [node[2]]
    return [node[2], node[3]]


def told_by(node):
    """The sums and conditions of a node; the box of a put or pick is told as the sum of it."""
    if node[0] == "end":
        return []
    if node[0] == "put":
        return [("box", node[1]), node[2]]
    if node[0] == "pick":
        return [("box", node[1])]
    return [node[1]]


def refuse_unknown(known, told):
    if not all_known(known, told):
        raise NoProgram("a box that is none is named")


def all_known(known, told):
    """Whether each box within a sum or condition is a key, also where it is never looked at."""
    if told[0] in NAMELESS:
        return True
    if told[0] not in PARTED:
        return told in known
    for part in told[1:]:
        if not all_known(known, part):
            return False
    return True


def refuse_worths(sizes, worths):
    if len(worths) != len(sizes):
        raise NoWorths(f"{len(worths)} worths are told, {len(sizes)} are due")
    for size, worth in zip(sizes, worths):
        if worth < 0 or worth >= size:
            raise NoWorths(f"the worth {worth} is out of the size {size}")


def box_sizes(program):
    return [size for name, size in program[0]]


def refuse_box_worths(program, worths):
    refuse_worths(box_sizes(program), worths)


def known_worths(program, worths, side="box"):
    """The worths by the sums that tell a box alone, so that such a sum is its own key."""
    return {(side, name): worth for (name, size), worth in zip(program[0], worths)}


def worth_by(known, sum_told):
    """A sum's worth, all of whose boxes are known."""
    if sum_told[0] == "number":
        return sum_told[1]
    if sum_told[0] == "plus":
        return worth_by(known, sum_told[1]) + worth_by(known, sum_told[2])
    if sum_told[0] == "less":
        return worth_by(known, sum_told[1]) - worth_by(known, sum_told[2])
    return known[sum_told]


def holds_by(known, condition):
    """Whether a condition holds, all of whose boxes are known."""
    if condition[0] == "yes":
        return True
    if condition[0] == "same":
        return worth_by(known, condition[1]) == worth_by(known, condition[2])
    if condition[0] == "under":
        return worth_by(known, condition[1]) < worth_by(known, condition[2])
    if condition[0] == "not":
        return not holds_by(known, condition[1])
    return holds_by(known, condition[1]) and holds_by(known, condition[2])


def known_for(program, worths, told):
    """The known worths, behind the refusals that are due of worths and of what is told."""
    refuse_box_worths(program, worths)
    known = known_worths(program, worths)
    refuse_unknown(known, told)
    return known


def sum_worth(program, worths, sum_told):
    """The worth of a sum by the boxes' worths, perhaps below 0."""
    return worth_by(known_for(program, worths, sum_told), sum_told)


def holds_at(program, worths, condition):
    """Whether a condition holds by the boxes' worths."""
    return holds_by(known_for(program, worths, condition), condition)
