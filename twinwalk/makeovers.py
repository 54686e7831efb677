"""Programs made over, each told with a paper that shows that it says the same as the old one."""

from twinwalk.between import YES, all_of, any_of, joined_by
from twinwalk.errors import NoChange, NoNode
from twinwalk.programs import PARTED, leads_of

NOUGHT = ("number", 0)


def refuse_no_nodes(program, numbers):
    for number in numbers:
        if number < 0 or number >= len(program[2]):
            raise NoNode(f"{number} is no node of the program")


def led_anew(node, leads):
    """The node with other leads, as many as it has."""
    return node[:len(node) - len(leads)] + tuple(leads)


def with_nodes(program, nodes):
    return (list(program[0]), list(program[1]), nodes)


def boxes_same(names):
    """A condition that these boxes have the same worths in both programs."""
    return all_of([YES] + [("same", ("mine", name), ("yours", name)) for name in names])


def all_same(program):
    return boxes_same([name for name, size in program[0]])


def level_entry(program, place, new_place, condition):
    """An entry by which a node of the old program, and a like one of the new program, step at once or end."""
    who = "end" if program[2][place][0] == "end" else "both"
    return (place, new_place, condition, who, NOUGHT)


def split_node(program, node, named):
    """A node copied as a last node, to which the named nodes lead where they led to the node."""
    refuse_no_nodes(program, [node] + named)
    nodes, same = program[2], all_same(program)
    copied, told = len(nodes), []
    for number, old in enumerate(nodes + [nodes[node]]):
        leads = leads_of(old)
        # The copy leads as the node itself does.
        if (node if number == copied else number) in named:
            leads = [copied if lead == node else lead for lead in leads]
        told.append(led_anew(old, leads))
    paper = [level_entry(program, place, place, same) for place in range(copied)]
    paper.append(level_entry(program, node, copied, same))
    return (with_nodes(program, told), paper)


def told_over(program, head, times):
    """All nodes so many times over; who led to the head leads to the head of the next copy."""
    refuse_no_nodes(program, [head])
    many, same, told, paper = len(program[2]), all_same(program), [], []
    for turn in range(times):
        own, behind = turn * many, (turn + 1) % times * many
        for place, node in enumerate(program[2]):
            leads = [behind + lead if lead == head else own + lead for lead in leads_of(node)]
            told.append(led_anew(node, leads))
            paper.append(level_entry(program, place, own + place, same))
    return (with_nodes(program, told), paper)


def names_box(sum_told, name):
    """Whether a sum names a box, wherever it stands."""
    if sum_told[0] in PARTED:
        return any([names_box(part, name) for part in sum_told[1:]])
    return sum_told == ("box", name)


def refuse_exchange(nodes, node):
    if nodes[node][0] != "put" or nodes[nodes[node][3]][0] != "put":
        raise NoChange("the node or its next is no put")
    behind = nodes[node][3]
    others = [old for number, old in enumerate(nodes) if number != node]
    if behind in (0, node) or any([behind in leads_of(old) for old in others]):
        raise NoChange("one comes to the next by another way, too")
    name, told = nodes[node][1], nodes[node][2]
    next_name, next_told = nodes[behind][1], nodes[behind][2]
    if name == next_name or names_box(told, next_name) or names_box(next_told, name):
        raise NoChange("the two puts hang on one another")


def exchanged_puts(program, node):
    """A put and its next, another put, exchanged."""
    refuse_no_nodes(program, [node])
    refuse_exchange(program[2], node)
    nodes, same = list(program[2]), all_same(program)
    behind = nodes[node][3]
    first, second = nodes[node], nodes[behind]
    nodes[node] = led_anew(second, [behind])
    nodes[behind] = led_anew(first, leads_of(second))
    told = [between_puts(program, first, second) if place == behind else same for place in range(len(nodes))]
    paper = [level_entry(program, place, place, condition) for place, condition in enumerate(told)]
    return (with_nodes(program, nodes), paper)


def between_puts(program, first, second):
    """What holds where the old program has made the first put alone, the new one the second one alone.

    The first put's box is still as it was in the new one, the second put's in the old one.
    """
    sizes = dict(program[0])
    others = [name for name, size in program[0] if name not in (first[1], second[1])]
    made = [put_made(sizes, first, "mine", "yours"), put_made(sizes, second, "yours", "mine")]
    return all_of([boxes_same(others)] + made)


def put_made(sizes, put, side, before):
    """A condition that a put's box on a side is the rest of the put's sum by the boxes of the side before it."""
    size = sizes[put[1]]
    told, most = small_sum(sizes, put[2], size, before)
    # A condition knows no rests; so it is told how often the size goes into the sum, which is not often.
    cases = [("plus", (side, put[1]), ("number", turns * size)) for turns in range(most // size + 1)]
    return any_of([("same", case, told) for case in cases])


def small_sum(sizes, sum_told, size, side):
    """A sum of the same rest by a size, which is never below 0 and never great; and the most that it comes to."""
    parts = {name: small_part(many, size) for name, many in parts_of(sum_told).items()}
    number, added, taken = parts.pop(""), [], []
    least = most = number
    for name, many in parts.items():
        box = (side, name)
        added.extend([box] * max(many, 0))
        taken.extend([box] * max(-many, 0))
        least += min(many, 0) * (sizes[name] - 1)
        most += max(many, 0) * (sizes[name] - 1)
    lift = -(least // size) * size
    told = joined_by("plus", [("number", number + lift)] + added)
    return (("less", told, joined_by("plus", taken)) if len(taken) > 0 else told, most + lift)


def small_part(many, size):
    """A number with the same rest by a size that is as near to 0 as may be."""
    rest = many % size
    return rest - size if rest * 2 > size else rest


def parts_of(sum_told):
    """How often each box is in a sum, by its name; by the text without signs the sum's number."""
    if sum_told[0] == "number":
        return {"": sum_told[1]}
    if sum_told[0] == "box":
        return {"": 0, sum_told[1]: 1}
    first, second = parts_of(sum_told[1]), parts_of(sum_told[2])
    sign = 1 if sum_told[0] == "plus" else -1
    return {name: first.get(name, 0) + sign * second.get(name, 0) for name in list(first) + list(second)}


def idle_next(node):
    """The next of a node that does nothing; None of one that does something."""
    if node[0] == "put" and node[2] == ("box", node[1]):
        return node[3]
    if node[0] == "test" and node[2] == node[3]:
        return node[2]
    return None


def goes_round(nodes, place):
    """Whether one comes from a node to it again by nodes that do nothing."""
    at = idle_next(nodes[place])
    for step in nodes:
        if at is None or at == place:
            return at == place
        at = idle_next(nodes[at])
    return False


def led_on(nodes, stays, place):
    """The first node that stays, from a place on, and how many are left out ahead of it."""
    many = 0
    while not stays[place]:
        place = idle_next(nodes[place])
        many += 1
    return (place, many)


def fitted_program(program):
    """The program without the nodes that do nothing, but for such as lead round among themselves."""
    nodes, same = program[2], all_same(program)
    stays = [idle_next(node) is None or goes_round(nodes, place) for place, node in enumerate(nodes)]
    ways = [led_on(nodes, stays, place) for place in range(len(nodes))]
    # Node 0, or the one to which it leads on, goes ahead of all.
    kept = [ways[0][0]] + [place for place in range(len(nodes)) if stays[place] and place != ways[0][0]]
    numbers = {place: number for number, place in enumerate(kept)}
    told = [led_anew(nodes[place], [numbers[ways[lead][0]] for lead in leads_of(nodes[place])]) for place in kept]
    paper = []
    for place, (to, many) in enumerate(ways):
        alone = (place, numbers[to], same, "mine", ("number", many))
        paper.append(level_entry(program, place, numbers[to], same) if stays[place] else alone)
    return (with_nodes(program, told), paper)
