"""[2], [3], [39] to [43]: programs made over, each with its paper."""

import copy
import random
import time
import unittest

from helper import A, B, C, END, NO, NOUGHT, ONE, TWO, YES, all_worths, more, some_pair, some_sum
from twinwalk.between import runs_part
from twinwalk.errors import NoChange, NoNode
from twinwalk.findings import likeness
from twinwalk.makeovers import exchanged_puts, fitted_program, split_node, told_over
from twinwalk.papers import paper_shows
from twinwalk.programs import program_of
from twinwalk.runs import every_input, said_in

BOXES = [("a", 4), ("b", 3)]
D = ("box", "d")


def number(told):
    return ("number", told)


def made(nodes, boxes=tuple(BOXES), inputs=("a",)):
    return program_of(list(boxes), list(inputs), nodes)


class Case(unittest.TestCase):
    def looked_at(self, program, deed, *told):
        """What a deed tells of a program, with its paper looked at; the nodes of the new program."""
        before = copy.deepcopy((program, told))
        answer = deed(program, *told)
        self.assertEqual((program, told), before)
        self.assertEqual((type(answer), len(answer)), (tuple, 2))
        new, paper = answer
        self.assertEqual([type(part) for part in new], [list, list, list])
        self.assertEqual((type(new), new[:2]), (tuple, program[:2]))
        self.assertEqual(program_of(*new), new)
        self.assertIs(type(paper), list)
        self.assertTrue(all(type(entry) is tuple and len(entry) == 5 for entry in paper))
        self.assertIs(paper_shows(program, new, paper), True)
        due = copy.deepcopy(answer)
        for part in new + (paper,):
            part.clear()
        self.assertEqual((program, told), before)
        self.assertEqual(deed(program, *told), due)
        return due[0][2]

    def says_the_same(self, program, new):
        for inputs in every_input(program):
            first, second = said_in(program, inputs, 300), said_in(new, inputs, 300)
            for said, heard in zip(first, second):
                self.assertEqual(said, heard)
            self.assertIs(runs_part(program, new, inputs), False)


NODES = [("put", "a", more("a"), 1), ("test", ("under", A, TWO), 0, 2), ("say", A, 1), ("test", YES, 1, 1), END]


class Split(Case):
    def split(self, nodes, node, named, due):
        self.assertEqual(self.looked_at(made(nodes), split_node, node, named), due)

    def test_some_named(self):
        copied = NODES[1]
        self.split(NODES, 1, [], NODES + [copied])
        self.split(NODES, 1, [0], [("put", "a", more("a"), 5)] + NODES[1:] + [copied])
        self.split(NODES, 1, [2], NODES[:2] + [("say", A, 5)] + NODES[3:] + [copied])
        self.split(NODES, 1, [3], NODES[:3] + [("test", YES, 5, 5), END, copied])
        self.split(NODES, 1, [0, 2, 3, 0, 3, 4], [("put", "a", more("a"), 5), copied, ("say", A, 5), ("test", YES, 5, 5),
                                                  END, copied])
        self.split(NODES, 1, [4], NODES + [copied])

    def test_next_and_other_by_themselves(self):
        nodes = [("test", ("same", A, ONE), 1, 2), ("say", A, 0), ("say", B, 0)]
        self.split(nodes, 1, [0], [("test", ("same", A, ONE), 3, 2), nodes[1], nodes[2], nodes[1]])
        self.split(nodes, 2, [0], [("test", ("same", A, ONE), 1, 3), nodes[1], nodes[2], nodes[2]])

    def test_the_node_itself_named(self):
        nodes = [("say", A, 1), ("test", ("same", A, B), 1, 0), END]
        self.split(nodes, 1, [], nodes + [nodes[1]])
        self.split(nodes, 1, [1], [nodes[0], ("test", ("same", A, B), 3, 0), END, ("test", ("same", A, B), 3, 0)])
        self.split(nodes, 1, [0, 1, 2], [("say", A, 3), ("test", ("same", A, B), 3, 0), END, ("test", ("same", A, B), 3, 0)])
        self.split(nodes, 1, [0], [("say", A, 3)] + nodes[1:] + [nodes[1]])
        self.split(nodes, 0, [0], nodes + [nodes[0]])

    def test_the_first_node_and_an_end(self):
        self.split(NODES, 0, [1], NODES[:1] + [("test", ("under", A, TWO), 5, 2)] + NODES[2:] + [NODES[0]])
        nodes = [("test", YES, 1, 1), END]
        self.split(nodes, 1, [0], [("test", YES, 2, 2), END, END])
        self.split(nodes, 1, [1], nodes + [END])

    def test_one_node(self):
        for node in (END, ("say", A, 0), ("put", "b", A, 0), ("test", NO, 0, 0)):
            again = {"end": END, "say": ("say", A, 1), "put": ("put", "b", A, 1), "test": ("test", NO, 1, 1)}[node[0]]
            self.split([node], 0, [], [node, node])
            self.split([node], 0, [0], [again, again])
        nothing = program_of([], [], [END])
        self.assertEqual(self.looked_at(nothing, split_node, 0, []), [END, END])

    def test_no_node(self):
        for node in (-1, 5, 10 ** 30, -5):
            self.assertRaises(NoNode, split_node, made(NODES), node, [])
            self.assertRaises(NoNode, split_node, made(NODES), 0, [node])
            self.assertRaises(NoNode, split_node, made(NODES), 1, [0, 1, node, 2])

    def test_by_chance(self):
        dice = random.Random(40)
        for many in range(150):
            program = some_pair(dice)[0]
            length = len(program[2])
            node, named = dice.randrange(length), [dice.randrange(length) for at in range(dice.randrange(5))]
            new = self.looked_at(program, split_node, node, named)
            for at, old in enumerate(program[2] + [program[2][node]]):
                leads = {"put": (3,), "say": (2,), "test": (2, 3), "end": ()}[old[0]]
                own = node if at == length else at
                due = tuple(length if place in leads and part == node and own in named else part
                            for place, part in enumerate(old))
                self.assertEqual(new[at], due)


class Over(Case):
    def test_each_head_and_count(self):
        leads = {"put": (3,), "say": (2,), "test": (2, 3), "end": ()}
        for nodes in (NODES, [END], [("say", A, 0)], [("test", ("same", A, B), 0, 1), ("put", "a", B, 0)]):
            for head in range(len(nodes)):
                for times in range(2, 9):
                    new = self.looked_at(made(nodes), told_over, head, times)
                    due = []
                    for turn in range(times):
                        for node in nodes:
                            due.append(tuple(
                                part if place not in leads[node[0]] else
                                part + len(nodes) * ((turn + 1) % times if part == head else turn)
                                for place, part in enumerate(node)))
                    self.assertEqual(new, due)

    def test_two_times_by_hand(self):
        nodes = [("test", ("same", A, NOUGHT), 2, 1), ("put", "a", ("less", A, ONE), 0), END]
        self.assertEqual(self.looked_at(made(nodes), told_over, 0, 2),
                         [("test", ("same", A, NOUGHT), 2, 1), ("put", "a", ("less", A, ONE), 3), END,
                          ("test", ("same", A, NOUGHT), 5, 4), ("put", "a", ("less", A, ONE), 0), END])
        self.assertEqual(self.looked_at(made(nodes), told_over, 1, 2),
                         [("test", ("same", A, NOUGHT), 2, 4), ("put", "a", ("less", A, ONE), 0), END,
                          ("test", ("same", A, NOUGHT), 5, 1), ("put", "a", ("less", A, ONE), 3), END])

    def test_no_node(self):
        for head in (-1, 5, 10 ** 30):
            self.assertRaises(NoNode, told_over, made(NODES), head, 2)
        self.assertRaises(NoNode, told_over, made([END]), 1, 8)

    def test_told_over_again(self):
        new = told_over(made(NODES), 1, 3)[0]
        self.looked_at(new, told_over, 7, 8)
        self.looked_at(new, split_node, 14, [0, 14])

    def test_by_chance(self):
        dice = random.Random(41)
        for many in range(60):
            program = some_pair(dice)[0]
            self.looked_at(program, told_over, dice.randrange(len(program[2])), dice.randrange(2, 9))


class Exchanged(Case):
    def exchanged(self, first, second, boxes=tuple(BOXES), inputs=("a",)):
        """Two puts exchanged, with a say of all boxes behind them."""
        names = [name for name, size in boxes]
        says = [("say", ("box", name), 3 + at) for at, name in enumerate(names)] + [END]
        nodes = [("put",) + first + (1,), ("put",) + second + (2,)] + says
        program = made(nodes, boxes, inputs)
        new = self.looked_at(program, exchanged_puts, 0)
        self.assertEqual(new, [("put",) + second + (1,), ("put",) + first + (2,)] + says)
        self.says_the_same(program, (program[0], program[1], new))

    def test_puts_of_numbers(self):
        self.exchanged(("a", ONE), ("b", TWO))
        self.exchanged(("b", number(10 ** 30 - 1)), ("a", number(17)))

    def test_puts_by_boxes(self):
        boxes = [("a", 4), ("b", 3), ("c", 2)]
        for inputs in ([], ["a"], ["c", "b", "a"]):
            self.exchanged(("a", more("a")), ("b", more("b", TWO)), boxes, inputs)
            self.exchanged(("a", C), ("b", ("less", C, B)), boxes, inputs)
            self.exchanged(("c", ("less", A, C)), ("b", ("plus", A, A)), boxes, inputs)
            self.exchanged(("b", ("less", NOUGHT, number(10 ** 29 + 1))), ("a", ("less", ("less", C, A), TWO)), boxes, inputs)

    def test_rests_of_great_sums(self):
        boxes = [("a", 4), ("b", 3), ("c", 5)]
        many = C
        for at in range(6):
            many = ("plus", many, many)
            self.exchanged(("a", ("plus", many, A)), ("b", ("less", B, many)), boxes, ["c"])
        self.exchanged(("a", ("less", ("less", number(7), many), A)), ("b", ("plus", many, ("less", C, B))), boxes, ["c"])

    def test_rests_by_a_size_that_goes_in_often(self):
        boxes, twice = [("a", 8), ("b", 1), ("c", 8)], ("plus", C, C)
        for told in (("plus", twice, twice), ("plus", twice, C), ("less", NOUGHT, ("plus", twice, C)),
                     ("less", ("less", ("number", 7), twice), A), ("plus", ("plus", A, A), ("plus", A, twice))):
            self.exchanged(("a", told), ("b", told if told[2] == C else C), boxes, ["c"])

    def test_boxes_of_one(self):
        self.exchanged(("a", number(5)), ("b", more("b")), [("a", 1), ("b", 1)], [])
        self.exchanged(("a", ("less", A, ("plus", C, C))), ("b", C), [("a", 1), ("b", 2), ("c", 3)], ["c"])

    def test_twenty_within_one_another(self):
        deep, sunk = C, C
        for at in range(19):
            deep = (("plus", "less")[at % 2], deep, A if at % 3 else C)
            sunk = (("less", "plus")[at % 2], number(at), sunk)
        self.exchanged(("a", deep), ("b", sunk), [("a", 4), ("b", 3), ("c", 5)], ["c"])

    def test_deep_in_a_program(self):
        nodes = [("test", ("under", A, TWO), 3, 1), ("say", A, 2), END, ("put", "b", A, 5), ("say", A, 3),
                 ("put", "c", more("c"), 4)]
        nodes[5] = ("put", "c", more("c"), 0)
        program = made(nodes, [("a", 4), ("b", 3), ("c", 2)])
        new = self.looked_at(program, exchanged_puts, 3)
        self.assertEqual(new, nodes[:3] + [("put", "c", more("c"), 5), nodes[4], ("put", "b", A, 0)])

    def test_the_next_leads_back_to_the_node(self):
        nodes = [("say", A, 1), ("put", "a", more("a"), 2), ("put", "b", more("b"), 1)]
        self.assertEqual(self.looked_at(made(nodes), exchanged_puts, 1),
                         [nodes[0], ("put", "b", more("b"), 2), ("put", "a", more("a"), 1)])

    def test_no_change(self):
        first, second, say = ("put", "a", ONE, 1), ("put", "b", TWO, 2), ("say", A, 3)
        tail = [say, END]
        self.looked_at(made([first, second] + tail), exchanged_puts, 0)
        for nodes, node in (([first, second] + tail, 1), ([first, second] + tail, 2), ([first, second] + tail, 3),
                            ([first, ("test", YES, 2, 2)] + tail, 0), ([first, ("say", A, 2)] + tail, 0),
                            ([first, END] + tail, 0), ([("test", YES, 1, 1), second] + tail, 0),
                            ([("say", ONE, 1), second] + tail, 0),
                            ([("put", "a", ONE, 0)], 0), ([say[:2] + (1,), ("put", "a", ONE, 1)], 1),
                            ([second, ("put", "a", ONE, 0), say, END], 1),
                            ([("put", "b", TWO, 1), ("put", "a", ONE, 0)], 1),
                            ([first, second, ("say", A, 1)], 0), ([first, second, ("test", NO, 1, 3), END], 0),
                            ([first, second, ("test", NO, 3, 1), END], 0), ([first, second, END, ("put", "a", A, 1)], 0),
                            ([first, ("put", "b", TWO, 1)], 0),
                            ([first, ("put", "a", TWO, 2)] + tail, 0), ([first, ("put", "b", A, 2)] + tail, 0),
                            ([("put", "a", B, 1), second] + tail, 0),
                            ([("put", "a", ("plus", ONE, ("less", TWO, B)), 1), second] + tail, 0),
                            ([first, ("put", "b", ("plus", ("less", A, A), B), 2)] + tail, 0)):
            with self.subTest(nodes=nodes):
                program = made(nodes)
                before = copy.deepcopy(program)
                self.assertRaises(NoChange, exchanged_puts, program, node)
                self.assertEqual(program, before)

    def test_no_node_ahead_of_no_change(self):
        for node in (-1, 1, 4, 10 ** 30):
            self.assertRaises(NoNode, exchanged_puts, made([END]), node)
        for node in (-1, 4):
            self.assertRaises(NoNode, exchanged_puts, made([("put", "a", ONE, 1), ("put", "b", ONE, 2), ("say", A, 3), END]),
                              node)

    def test_by_chance(self):
        dice = random.Random(42)
        for many in range(150):
            boxes = [(name, dice.randrange(1, 5)) for name in "abc"]
            names = dice.sample("abc", 3)
            left = [("box", names[0]), ("box", names[2])]
            right = [("box", names[1]), ("box", names[2])]
            self.exchanged((names[0], some_sum(dice, left, 4)), (names[1], some_sum(dice, right, 4)), boxes,
                           dice.sample("abc", dice.randrange(4)))

    def test_at_the_bounds_in_good_time(self):
        boxes = [("a", 16), ("b", 16), ("c", 16), ("d", 16)]
        many = D
        for at in range(3):
            many = ("plus", many, many)
        first = ("plus", ("plus", many, C), ("less", ("less", A, many), ("plus", C, ("plus", C, C))))
        second = ("less", ("plus", many, B), ("plus", ("plus", C, C), ("plus", C, many)))
        program = made([("put", "a", first, 1), ("put", "b", second, 2), END], boxes, ["a", "b", "c"])
        begun = time.perf_counter()
        new, paper = exchanged_puts(program, 0)
        self.assertLess(time.perf_counter() - begun, 10)
        self.assertEqual((new[2], len(paper)), ([("put", "b", second, 1), ("put", "a", first, 2), END], 3))
        lesser = made(program[2], [("a", 2), ("b", 2), ("c", 4), ("d", 4)])
        new, paper = exchanged_puts(lesser, 0)
        self.assertIs(paper_shows(lesser, new, paper), True)
        self.assertLess(time.perf_counter() - begun, 60)


class Fitted(Case):
    def fitted(self, nodes, due):
        program = made(nodes)
        new = self.looked_at(program, fitted_program)
        self.assertEqual(new, due)
        self.says_the_same((program[0], program[1], new), program)

    def test_everything_stays(self):
        for nodes in (NODES[:3] + [("test", YES, 1, 4), END], [END], [("say", A, 0)], [("put", "a", ("plus", A, NOUGHT), 0)]):
            self.fitted(nodes, nodes)

    def test_puts_of_a_box_to_itself(self):
        self.fitted([("say", A, 1), ("put", "a", A, 2), END], [("say", A, 1), END])
        self.fitted([("say", A, 1), ("put", "a", B, 2), END], [("say", A, 1), ("put", "a", B, 2), END])

    def test_puts_of_another_sum_of_the_same_worth_stay(self):
        for told in (("plus", A, NOUGHT), ("less", A, NOUGHT), ("plus", NOUGHT, A), ("plus", A, number(4)),
                     ("less", ("plus", A, B), B)):
            nodes = [("put", "a", told, 1), END]
            self.fitted(nodes, nodes)

    def test_tests_that_lead_to_one_place(self):
        self.fitted([("say", A, 1), ("test", ("under", A, B), 2, 2), END], [("say", A, 1), END])
        stay = [("say", A, 1), ("test", YES, 2, 0), END]
        self.fitted(stay, stay)

    def test_a_test_that_leads_to_one_place_only_then_stays(self):
        self.fitted([("test", ("under", A, TWO), 1, 2), ("put", "a", A, 2), END],
                    [("test", ("under", A, TWO), 1, 1), END])

    def test_chains(self):
        self.fitted([("say", A, 3), END, ("put", "b", B, 1), ("put", "a", A, 4), ("test", NO, 2, 2)],
                    [("say", A, 1), END])
        self.fitted([("test", ("same", A, ONE), 1, 3), ("test", YES, 2, 2), ("put", "a", A, 3), ("say", A, 1)],
                    [("test", ("same", A, ONE), 1, 1), ("say", A, 1)])

    def test_rounds_of_nodes_that_do_nothing(self):
        for nodes in ([("put", "a", A, 0)], [("test", YES, 0, 0)], [("put", "a", A, 1), ("test", NO, 0, 0)],
                      [("say", A, 1), ("put", "a", A, 2), ("put", "b", B, 3), ("test", YES, 1, 1)]):
            self.fitted(nodes, nodes)

    def test_one_that_leads_to_a_round(self):
        self.fitted([("say", A, 1), ("put", "a", A, 2), ("test", YES, 3, 3), ("put", "b", B, 2)],
                    [("say", A, 1), ("test", YES, 2, 2), ("put", "b", B, 1)])
        self.fitted([("say", A, 2), ("test", YES, 1, 1), ("put", "a", A, 3), ("put", "b", B, 1)],
                    [("say", A, 1), ("test", YES, 1, 1)])

    def test_the_first_node_left_out(self):
        self.fitted([("put", "a", A, 1), ("say", A, 2), END], [("say", A, 1), END])
        self.fitted([("put", "a", A, 2), ("say", A, 3), ("say", B, 1), END],
                    [("say", B, 1), ("say", A, 2), END])
        self.fitted([("put", "a", A, 3), ("say", A, 3), ("say", B, 0), END], [END, ("say", A, 0), ("say", B, 0)])
        self.fitted([("test", YES, 3, 3), ("say", A, 2), ("say", B, 0), ("put", "b", B, 2)],
                    [("say", B, 0), ("say", A, 0)])

    def test_the_first_node_left_out_and_led_on_to_a_round(self):
        self.fitted([("put", "a", A, 2), END, ("put", "b", B, 3), ("test", YES, 2, 2)],
                    [("put", "b", B, 2), END, ("test", YES, 0, 0)])
        self.fitted([("put", "a", A, 3), END, ("put", "b", B, 3), ("test", YES, 2, 2)],
                    [("test", YES, 2, 2), END, ("put", "b", B, 0)])

    def test_by_chance(self):
        dice = random.Random(43)
        for many in range(300):
            length = dice.randrange(1, 8)
            nodes = []
            for at in range(length):
                to, other = dice.randrange(length), dice.randrange(length)
                nodes.append(dice.choice((("put", "a", A, to), ("put", "b", B, to), ("test", ("under", A, B), to, to),
                                          ("test", ("same", A, B), to, other), ("say", B, to), END, ("put", "b", A, to))))
            self.fitted(nodes, fitted_as_told(nodes))

    def test_forty_nodes_in_good_time(self):
        nodes = [("put", "a", A, at + 1) for at in range(39)] + [("say", A, 0)]
        begun = time.perf_counter()
        self.fitted(nodes, [("say", A, 0)])
        self.looked_at(told_over(made(nodes), 0, 8)[0], fitted_program)
        self.assertLess(time.perf_counter() - begun, 30)


def fitted_as_told(nodes):
    """[43] word by word."""
    idle = {}
    for at, node in enumerate(nodes):
        if node[0] == "put" and node[2] == ("box", node[1]) or node[0] == "test" and node[2] == node[3]:
            idle[at] = node[-1]

    def behind(place):
        """All nodes to which one comes from an idle one by idle ones."""
        found = []
        while place in idle and idle[place] not in found:
            place = idle[place]
            found.append(place)
        return found
    left_out = {at: to for at, to in idle.items() if at not in behind(at)}

    def on(place):
        while place in left_out:
            place = left_out[place]
        return place
    kept = [at for at in range(len(nodes)) if at not in left_out]
    kept.remove(on(0))
    kept.insert(0, on(0))
    leads = {"put": (3,), "say": (2,), "test": (2, 3), "end": ()}
    return [tuple(kept.index(on(part)) if at in leads[nodes[place][0]] else part
                  for at, part in enumerate(nodes[place])) for place in kept]


class Alike(Case):
    def test_made_over_programs_are_alike(self):
        dice = random.Random(44)
        for many in range(80):
            program = some_pair(dice)[0]
            if len(all_worths(program)) > 12:
                continue
            head = dice.randrange(len(program[2]))
            for new, paper in (split_node(program, head, [0, head]), told_over(program, head, 3), fitted_program(program)):
                self.assertEqual(likeness(program, new)[0], "paper")


if __name__ == "__main__":
    unittest.main()
