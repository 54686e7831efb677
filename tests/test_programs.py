"""[2], [3], [5] to [8]: programs, sums and conditions."""

import copy
import unittest

from twinwalk.errors import NoProgram, NoWorths
from twinwalk.programs import holds_at, program_of, sum_worth

A, B = ("box", "a"), ("box", "b")
GHOST = ("box", "ghost")
YES, END = ("yes",), ("end",)
ONE, TWO = ("number", 1), ("number", 2)
BIG = 10 ** 30 - 1
BOXES = [("a", 3), ("b", 5)]
INPUTS = ["b"]
NODES = [("put", "a", ("plus", A, ONE), 1), ("say", ("less", B, A), 2),
         ("test", ("under", A, B), 0, 3), END]


def deep_sum(leaf, depth, side):
    told = leaf
    for at in range(depth):
        kind = ("plus", "less")[at % 2]
        told = (kind, told, ONE) if side == 0 else (kind, ONE, told)
    return told


def deep_condition(leaf, depth, side):
    told = leaf
    for at in range(depth):
        if at % 2 == 0:
            told = ("not", told)
        else:
            told = ("both", told, YES) if side == 0 else ("both", YES, told)
    return told


def sums_with(leaf):
    """Sums that name the leaf, at many depths and places."""
    sums = [leaf, ("plus", leaf, ONE), ("plus", ONE, leaf), ("less", leaf, ONE), ("less", ONE, leaf)]
    sums += [deep_sum(leaf, depth, side) for depth in (2, 7, 20) for side in (0, 1)]
    return sums


def conditions_with(leaf):
    """Conditions that name the leaf, also where nobody need look."""
    plain = [(kind, x, y) for kind in ("same", "under") for s in sums_with(leaf)
             for x, y in ((s, TWO), (TWO, s))]
    never = ("both", ("same", ONE, TWO), ("same", leaf, ONE))
    ahead = ("both", ("same", leaf, ONE), ("same", ONE, TWO))
    deep = [deep_condition(("same", leaf, ONE), depth, side) for depth in (1, 2, 7, 20) for side in (0, 1)]
    return plain + [never, ahead, ("not", never)] + deep


class Made(unittest.TestCase):
    def test_as_it_was_handed_in(self):
        self.assertEqual(program_of(BOXES, INPUTS, NODES), (BOXES, INPUTS, NODES))

    def test_kinds(self):
        program = program_of(BOXES, INPUTS, NODES)
        self.assertIs(type(program), tuple)
        self.assertEqual([type(part) for part in program], [list, list, list])
        for part in (program[0], program[2]):
            self.assertTrue(all(type(thing) is tuple for thing in part))

    def test_no_boxes(self):
        nodes = [("say", ("number", 0), 1), END]
        self.assertEqual(program_of([], [], nodes), ([], [], nodes))

    def test_four_boxes_inputs_in_another_order(self):
        boxes = [("d", 1), ("abcdefgh", 16), ("yes", 2), ("a", 7)]
        inputs = ["a", "d", "yes", "abcdefgh"]
        self.assertEqual(program_of(boxes, inputs, [END]), (boxes, inputs, [END]))

    def test_forty_nodes(self):
        nodes = [("put", "a", A, at + 1) for at in range(38)] + [("test", YES, 39, 0), END]
        self.assertEqual(len(nodes), 40)
        self.assertEqual(program_of(BOXES, [], nodes), (BOXES, [], nodes))

    def test_twenty_within_one_another(self):
        nodes = [("put", "a", deep_sum(A, 20, 0), 1), ("say", deep_sum(B, 20, 1), 2),
                 ("test", deep_condition(("same", deep_sum(A, 20, 1), B), 20, 1), 3, 3), END]
        self.assertEqual(program_of(BOXES, INPUTS, nodes), (BOXES, INPUTS, nodes))

    def test_nothing_is_refused_for_lying_beyond_a_bound(self):
        boxes = [("a", 17), ("b", 40), ("c", 1), ("d", 2), ("e", 3)]
        nodes = [("put", "a", deep_sum(A, 30, 0), 1)] + [("say", ("number", 10 * BIG), 0)] * 49
        self.assertEqual(program_of(boxes, ["e", "a"], nodes), (boxes, ["e", "a"], nodes))

    def test_leads_to_itself_the_first_and_the_last(self):
        nodes = [("test", YES, 0, 1), ("say", ONE, 0), ("put", "a", ONE, 2)]
        self.assertEqual(program_of(BOXES, [], nodes)[2], nodes)

    def test_all_sums_and_conditions_of_boxes_that_are_there(self):
        nodes = [("say", told, 0) for told in sums_with(A)] + [("test", told, 0, 0) for told in conditions_with(B)]
        self.assertEqual(program_of(BOXES, [], nodes)[2], nodes)


class Refused(unittest.TestCase):
    def refused(self, boxes, inputs, nodes):
        before = copy.deepcopy((boxes, inputs, nodes))
        with self.assertRaises(NoProgram):
            program_of(boxes, inputs, nodes)
        self.assertEqual((boxes, inputs, nodes), before)

    def test_size_below_one(self):
        for size in (0, -1, -BIG):
            for at in range(3):
                boxes = [("a", 3), ("b", 5)]
                boxes.insert(at, ("c", size))
                with self.subTest(size=size, at=at):
                    self.refused(boxes, INPUTS, NODES)

    def test_name_twice(self):
        for twice in (("a", 3), ("a", 4), ("b", 5)):
            with self.subTest(twice):
                self.refused(BOXES + [twice], INPUTS, NODES)
        self.refused([("a", 3), ("b", 5), ("c", 2), ("a", 3)], [], [END])

    def test_input_that_is_no_box(self):
        for inputs in (["c"], ["a", "c"], ["c", "a"], ["ab"], ["a", "b", "ghost"]):
            with self.subTest(inputs):
                self.refused(BOXES, inputs, NODES)
        self.refused([], ["a"], [END])

    def test_input_twice(self):
        for inputs in (["a", "a"], ["a", "b", "a"]):
            with self.subTest(inputs):
                self.refused(BOXES, inputs, NODES)

    def test_no_nodes(self):
        self.refused(BOXES, INPUTS, [])
        self.refused([], [], [])

    def test_node_leads_to_none(self):
        for lead in (-1, -2, 2, 3, BIG, -BIG):
            for node in (("put", "a", ONE, lead), ("say", ONE, lead),
                         ("test", YES, lead, 1), ("test", YES, 1, lead), ("test", YES, lead, lead)):
                with self.subTest(node):
                    self.refused(BOXES, [], [node, END])
                    self.refused(BOXES, [], [END, node])

    def test_put_of_a_box_that_is_none(self):
        self.refused(BOXES, [], [("put", "ghost", ONE, 0)])
        self.refused([], [], [("put", "a", ONE, 0)])
        self.refused(BOXES, [], [END, ("put", "ghost", ONE, 0)])

    def test_sum_of_a_box_that_is_none(self):
        for told in sums_with(GHOST):
            with self.subTest(told):
                self.refused(BOXES, [], [("put", "a", told, 0)])
                self.refused(BOXES, [], [("say", told, 0)])
                self.refused(BOXES, [], [END, ("say", told, 0)])

    def test_condition_of_a_box_that_is_none(self):
        for told in conditions_with(GHOST):
            with self.subTest(told):
                self.refused(BOXES, [], [("test", told, 1, 1), END])
                self.refused(BOXES, [], [END, ("test", told, 0, 0)])

    def test_box_in_a_program_without_boxes(self):
        self.refused([], [], [("say", A, 0)])


class Own(unittest.TestCase):
    def test_lists_handed_in_stay_and_are_not_kept(self):
        boxes, inputs, nodes = list(BOXES), list(INPUTS), list(NODES)
        program = program_of(boxes, inputs, nodes)
        self.assertEqual((boxes, inputs, nodes), (BOXES, INPUTS, NODES))
        boxes.append(("c", 2))
        inputs[0] = "a"
        del nodes[1:]
        self.assertEqual(program, (BOXES, INPUTS, NODES))

    def test_told_lists_are_the_askers_own(self):
        boxes, inputs, nodes = list(BOXES), list(INPUTS), list(NODES)
        first = program_of(boxes, inputs, nodes)
        second = program_of(boxes, inputs, nodes)
        for part in first:
            part.clear()
        self.assertEqual((boxes, inputs, nodes), (BOXES, INPUTS, NODES))
        self.assertEqual(second, (BOXES, INPUTS, NODES))
        self.assertEqual(program_of(boxes, inputs, nodes), (BOXES, INPUTS, NODES))

    def test_a_program_made_of_a_programs_lists_is_new(self):
        first = program_of(BOXES, INPUTS, NODES)
        second = program_of(*first)
        first[2].append(END)
        self.assertEqual(second, (BOXES, INPUTS, NODES))

    def test_program_and_worths_stay_as_they_were(self):
        program, worths = program_of(BOXES, INPUTS, NODES), [2, 4]
        sum_worth(program, worths, ("plus", A, B))
        holds_at(program, worths, ("same", A, B))
        self.assertEqual((program, worths), ((BOXES, INPUTS, NODES), [2, 4]))

    def test_what_is_refused_changes_nothing(self):
        program, worths = program_of(BOXES, INPUTS, NODES), [3, 4]
        with self.assertRaises(NoWorths):
            sum_worth(program, worths, A)
        self.assertEqual((program, worths), ((BOXES, INPUTS, NODES), [3, 4]))


class Worths(unittest.TestCase):
    def setUp(self):
        self.program = program_of(BOXES, INPUTS, NODES)

    def worth(self, told, worths=(2, 4)):
        answer = sum_worth(self.program, list(worths), told)
        self.assertIs(type(answer), int)
        return answer

    def test_sums(self):
        self.assertEqual(self.worth(("number", 0)), 0)
        self.assertEqual(self.worth(A), 2)
        self.assertEqual(self.worth(B), 4)
        self.assertEqual(self.worth(("plus", A, B)), 6)
        self.assertEqual(self.worth(("less", B, A)), 2)
        self.assertEqual(self.worth(A, (0, 0)), 0)

    def test_below_nought(self):
        self.assertEqual(self.worth(("less", A, B)), -2)
        self.assertEqual(self.worth(("less", ("less", A, B), ("less", B, A))), -4)
        self.assertEqual(self.worth(("less", ("number", 0), ("number", BIG))), -BIG)

    def test_sums_are_not_kept_to_a_size(self):
        self.assertEqual(self.worth(("plus", A, ("number", 5))), 7)

    def test_thirty_figures(self):
        self.assertEqual(self.worth(("number", BIG)), BIG)
        self.assertEqual(self.worth(("plus", ("number", BIG), ("number", BIG))), 2 * BIG)
        self.assertEqual(self.worth(("less", ("plus", ("number", BIG), A), ("number", BIG - 1))), 3)

    def test_twenty_within_one_another(self):
        self.assertEqual(self.worth(deep_sum(A, 20, 0)), 2)
        told, due = A, 2
        for at in range(20):
            told, due = ("less", B, told), 4 - due
        self.assertEqual(self.worth(told), due)

    def test_order_is_that_of_the_boxes_not_of_the_inputs(self):
        self.program = program_of([("b", 5), ("a", 3)], ["a", "b"], [END])
        self.assertEqual(self.worth(("less", B, A), (4, 1)), 3)

    def test_no_boxes(self):
        program = program_of([], [], [END])
        self.assertEqual(sum_worth(program, [], ("less", ONE, TWO)), -1)
        self.assertIs(holds_at(program, [], YES), True)


class Holds(unittest.TestCase):
    def setUp(self):
        self.program = program_of(BOXES, INPUTS, NODES)

    def holds(self, due, told, worths=(2, 4)):
        self.assertIs(holds_at(self.program, list(worths), told), due)

    def test_yes(self):
        self.holds(True, YES)
        self.holds(True, YES, (0, 0))

    def test_same(self):
        self.holds(False, ("same", A, B))
        self.holds(True, ("same", A, B), (2, 2))
        self.holds(False, ("same", A, B), (2, 1))
        self.holds(True, ("same", ("number", BIG), ("plus", ("number", BIG - 1), ONE)))
        self.holds(False, ("same", ("number", BIG), ("number", BIG - 1)))

    def test_under(self):
        self.holds(True, ("under", A, B))
        self.holds(False, ("under", B, A))
        self.holds(False, ("under", A, B), (2, 2))
        self.holds(True, ("under", ("less", A, B), ("number", 0)))
        self.holds(True, ("under", ("number", BIG - 1), ("number", BIG)))
        self.holds(False, ("under", ("number", BIG), ("number", BIG - 1)))

    def test_not(self):
        self.holds(False, ("not", YES))
        self.holds(True, ("not", ("not", YES)))
        self.holds(True, ("not", ("same", A, B)))

    def test_both(self):
        no = ("not", YES)
        for one, other, due in ((YES, YES, True), (YES, no, False), (no, YES, False), (no, no, False)):
            self.holds(due, ("both", one, other))
        self.holds(True, ("both", ("under", A, B), ("same", A, TWO)))
        self.holds(False, ("both", ("under", A, B), ("same", A, ONE)))

    def test_twenty_within_one_another(self):
        told, due = ("same", A, TWO), True
        for at in range(20):
            told, due = ("not", told), not due
        self.holds(due, told)
        self.holds(False, ("not", told))
        told = ("same", A, TWO)
        for at in range(20):
            told = ("both", YES, told) if at % 2 else ("both", told, YES)
        self.holds(True, told)
        self.holds(False, told, (1, 4))


NO_WORTHS = ([], [0], [0, 0, 0], [-1, 0], [0, -1], [3, 0], [0, 5], [4, 0], [0, 6], [BIG, 0], [0, -BIG], [4, 2])


class NoSuch(unittest.TestCase):
    def setUp(self):
        self.program = program_of(BOXES, INPUTS, NODES)

    def test_worths_that_are_none(self):
        for worths in NO_WORTHS:
            for told in (ONE, A, GHOST, ("plus", A, GHOST)):
                with self.subTest(worths=worths, told=told):
                    self.assertRaises(NoWorths, sum_worth, self.program, worths, told)
            for told in (YES, ("same", A, B), ("same", GHOST, A), ("both", YES, ("same", A, GHOST))):
                with self.subTest(worths=worths, told=told):
                    self.assertRaises(NoWorths, holds_at, self.program, worths, told)

    def test_worths_of_no_boxes(self):
        program = program_of([], [], [END])
        self.assertRaises(NoWorths, sum_worth, program, [0], ONE)
        self.assertRaises(NoWorths, holds_at, program, [0], YES)

    def test_worths_at_the_edges_are_some(self):
        for worths in ([0, 0], [2, 4], [0, 4], [2, 0]):
            self.assertEqual(sum_worth(self.program, worths, A), worths[0])
            self.assertIs(holds_at(self.program, worths, ("same", B, ("number", worths[1]))), True)

    def test_a_box_that_is_none(self):
        for told in sums_with(GHOST):
            with self.subTest(told):
                self.assertRaises(NoProgram, sum_worth, self.program, [2, 4], told)
        for told in conditions_with(GHOST):
            with self.subTest(told):
                self.assertRaises(NoProgram, holds_at, self.program, [2, 4], told)

    def test_both_sides_are_looked_at_wherever_they_stand(self):
        no, ghost = ("not", YES), ("same", GHOST, GHOST)
        for told in (("both", no, ghost), ("both", ghost, no), ("not", ("both", no, ghost))):
            self.assertRaises(NoProgram, holds_at, self.program, [2, 4], told)


if __name__ == "__main__":
    unittest.main()
