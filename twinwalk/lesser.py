"""Papers made lesser: alike entries joined, and papers kept to what is come to."""

from twinwalk.between import YES, any_of, refuse_no_pair
from twinwalk.errors import NoPaper
from twinwalk.papers import Ground, Turn, paper_shows, rows_counted, told_by_places, turn_fits, worths_by_places
from twinwalk.programs import all_known, box_sizes


def from_to(box, low, high):
    """A condition that holds where a box's worth is one from low to high."""
    if low == high:
        return ("same", box, ("number", low))
    below = ("under", box, ("number", high + 1))
    return below if low == 0 else ("both", below, ("not", ("under", box, ("number", low))))


def stretches_of(worths):
    """Rising worths as tuples (low, high) of such as stand side by side."""
    stretches = []
    for worth in worths:
        if len(stretches) > 0 and stretches[-1][1] == worth - 1:
            stretches[-1] = (stretches[-1][0], worth)
        else:
            stretches.append((worth, worth))
    return stretches


def one_of(box, worths):
    return any_of([from_to(box, low, high) for low, high in stretches_of(worths)])


def scale_of(ground):
    """For each box of both (box, size, block): so many rows in a row have the same worth of it and of those ahead."""
    sizes = box_sizes(ground.mine.program) + box_sizes(ground.yours.program)
    block, scale = len(ground.rows), []
    for box, size in zip(ground.columns, sizes):
        block = block // size
        scale.append((box, size, block))
    return scale


def condition_at(scale, rows):
    """A condition that holds at just these rows, some and rising, of those that differ by boxes of the scale."""
    if len(scale) == 0 or len(rows) == scale[0][1] * scale[0][2]:
        return YES
    box, size, block = scale[0]
    parts = [[] for worth in range(size)]
    for row in rows:
        parts[row // block].append(row % block)
    alike = {}
    for worth, part in enumerate(parts):
        alike.setdefault(tuple(part), []).append(worth)
    return any_of([case_of(scale, worths, part) for part, worths in alike.items() if len(part) > 0])


def case_of(scale, worths, part):
    """A condition that the scale's first box has one of the worths, and further boxes those of a part of the rows."""
    within = condition_at(scale[1:], part)
    if len(worths) == scale[0][1]:
        return within
    here = one_of(scale[0][0], worths)
    return here if within == YES else ("both", here, within)


def lesser_paper(one, other, paper):
    """The paper with the first one of alike entries alone, which counts where any of them counted."""
    refuse_no_pair(one, other)
    ground = Ground(one, other)
    if not all([all_known(ground.columns, entry[2]) for entry in paper]):
        # Where such entries count is told nowhere, so nothing is joined.
        return list(paper)
    counted, scale, alike = rows_counted(ground, paper), scale_of(ground), {}
    for number, (p, q, condition, who, wait) in enumerate(paper):
        # A wait may be too deep for a key, its text is not.
        alike.setdefault((p, q, who, repr(wait)), []).append(number)
    return [joined_entry(paper, counted, scale, numbers) for numbers in alike.values()]


def joined_entry(paper, counted, scale, numbers):
    """The one entry for all of these alike ones."""
    entry = paper[numbers[0]]
    if len(numbers) == 1:
        return entry
    return entry_kept(scale, entry, sorted([row for number in numbers for row in counted[number]]))


def entry_kept(scale, entry, rows):
    """The entry with a condition that holds at just these rows."""
    p, q, condition, who, wait = entry
    return (p, q, condition_at(scale, rows) if len(rows) > 0 else ("not", YES), who, wait)


def rows_come_to(ground, paper):
    """For each entry the rows at which one comes to it, rising."""
    counted = rows_counted(ground, paper)
    waits = worths_by_places(ground, paper, counted, 4)
    told = [[number] * len(rows) for number, rows in enumerate(counted)]
    # The entry that counts, by places and row, as long as none has come there.
    left = told_by_places(ground, paper, counted, told)
    turns = [Turn(ground, waits, entry) if turn_fits(ground, entry) else None for entry in paper]
    come = [[] for entry in paper]
    for begun in ground.beginnings():
        come_along(turns, left, come, begun)
    return [sorted(rows) for rows in come]


def come_along(turns, left, come, begun):
    """Goes from a beginning on as the entries tell, till one isn't well or where one has been already."""
    behind = ((0, 0), begun) if (0, 0) in left else None
    while behind is not None:
        places, row = behind
        number, behind = left[places][row], None
        if number is not None:
            left[places][row] = None
            come[number].append(row)
            behind = turns[number].behind(row) if turns[number] is not None else None


def entries_come_to(one, other, paper):
    """The numbers of the entries that count where one comes from the beginnings, rising."""
    refuse_no_pair(one, other)
    come = rows_come_to(Ground(one, other), paper)
    return [number for number, rows in enumerate(come) if len(rows) > 0]


def kept_paper(one, other, paper):
    """A paper that is let by, kept to the entries come to and to the worths at which one comes to them."""
    if not paper_shows(one, other, paper):
        raise NoPaper("the paper is not let by")
    ground = Ground(one, other)
    come, scale = rows_come_to(ground, paper), scale_of(ground)
    return [entry_kept(scale, entry, rows) for entry, rows in zip(paper, come) if len(rows) > 0]
