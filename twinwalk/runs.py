"""Steps and runs of one program."""

from twinwalk.programs import holds_by, known_worths, refuse_box_worths, refuse_worths, worth_by


def step_from(program, place, worths):
    """The step from a node's number and worths: what is said, place and worths behind it; None at an end."""
    refuse_box_worths(program, worths)
    return step_at(program, place, worths)


def step_at(program, place, worths):
    """A step as step_from tells it, of worths that are surely the program's own."""
    node = program[2][place]
    if node[0] == "end":
        return None
    known = known_worths(program, worths)
    if node[0] == "put":
        return ([], node[3], worths_put(program, worths, node[1], worth_by(known, node[2])))
    if node[0] == "say":
        return ([worth_by(known, node[1])], node[2], list(worths))
    if holds_by(known, node[1]):
        return ([], node[2], list(worths))
    return ([], node[3], list(worths))


def worths_put(program, worths, put_name, told):
    """The worths with one box set to the rest of what is told."""
    return [told % size if name == put_name else worth for (name, size), worth in zip(program[0], worths)]


def input_sizes(program):
    sizes = dict(program[0])
    return [sizes[name] for name in program[1]]


def beginning_of(program, inputs):
    """The boxes' worths at which the run for these inputs' worths begins."""
    refuse_worths(input_sizes(program), inputs)
    given = dict(zip(program[1], inputs))
    return [given.get(name, 0) for name, size in program[0]]


def run_of(program, inputs):
    """A run: what is said ahead, what is said in the round (None where it ends), the steps ahead or in all."""
    place, worths, said, met = 0, beginning_of(program, inputs), [], {}
    while (place, tuple(worths)) not in met:
        met[(place, tuple(worths))] = (len(met), len(said))
        step = step_at(program, place, worths)
        if step is None:
            return (said, None, len(met) - 1)
        spoken, place, worths = step
        said.extend(spoken)
    steps, ahead = met[(place, tuple(worths))]
    return (said[:ahead], said[ahead:], steps)


def said_in(program, inputs, steps):
    """What is said in a run's first so many steps."""
    place, worths, said = 0, beginning_of(program, inputs), []
    for at in range(steps):
        step = step_at(program, place, worths)
        if step is None:
            return said
        spoken, place, worths = step
        said.extend(spoken)
    return said


def every_input(program):
    """All inputs' worths, in order."""
    return every_worths(input_sizes(program))


def every_worths(sizes):
    """All lists of a whole number below each size, in order."""
    rows = [[]]
    for size in sizes:
        rows = [row + [worth] for row in rows for worth in range(size)]
    return rows
