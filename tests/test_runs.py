"""[2], [9] to [12]: steps and runs."""

import copy
import random
import time
import unittest

from twinwalk.errors import NoWorths
from twinwalk.programs import program_of
from twinwalk.runs import every_input, run_of, said_in, step_from

A, B, C, D = ("box", "a"), ("box", "b"), ("box", "c"), ("box", "d")
YES, END = ("yes",), ("end",)
NOUGHT, ONE, TWO = ("number", 0), ("number", 1), ("number", 2)
BIG = 10 ** 30 - 1
BOXES = [("a", 3), ("b", 5)]
NO_WORTHS = ([], [0], [0, 0, 0], [-1, 0], [0, -1], [3, 0], [0, 5], [4, 0], [0, 6], [BIG, 0], [0, -BIG], [4, 2])


def more(name, told):
    return ("plus", ("box", name), told)


class Steps(unittest.TestCase):
    def step(self, node, worths, due, boxes=BOXES):
        program = program_of(boxes, [], [END, node, END, END])
        answer = step_from(program, 1, worths)
        self.assertEqual(answer, due)
        self.assertIs(type(answer), tuple)
        self.assertIs(type(answer[0]), list)
        self.assertIs(type(answer[2]), list)
        self.assertTrue(all(type(number) is int for number in answer[0] + answer[2] + [answer[1]]))

    def test_put(self):
        self.step(("put", "a", ONE, 3), [2, 4], ([], 3, [1, 4]))
        self.step(("put", "b", more("a", ONE), 2), [2, 4], ([], 2, [2, 3]))
        self.step(("put", "b", A, 1), [2, 4], ([], 1, [2, 2]))

    def test_put_of_what_is_below_nought(self):
        self.step(("put", "a", ("less", NOUGHT, ONE), 2), [0, 0], ([], 2, [2, 0]))
        self.step(("put", "b", ("less", A, ("number", 12)), 2), [1, 0], ([], 2, [1, 4]))
        self.step(("put", "a", ("less", NOUGHT, ("number", 3)), 2), [1, 0], ([], 2, [0, 0]))
        self.step(("put", "a", ("less", NOUGHT, ("number", BIG)), 2), [1, 0], ([], 2, [0, 0]))

    def test_put_of_what_is_above_the_size(self):
        self.step(("put", "a", ("number", 3), 2), [1, 1], ([], 2, [0, 1]))
        self.step(("put", "a", ("number", 11), 2), [1, 1], ([], 2, [2, 1]))
        self.step(("put", "b", ("number", BIG), 2), [1, 1], ([], 2, [1, 4]))

    def test_put_in_a_box_of_size_one(self):
        self.step(("put", "a", ("number", 7), 0), [0], ([], 0, [0]), [("a", 1)])

    def test_say(self):
        self.step(("say", ("plus", A, B), 3), [2, 4], ([6], 3, [2, 4]))
        self.step(("say", ("less", A, B), 0), [2, 4], ([-2], 0, [2, 4]))
        self.step(("say", ("number", BIG), 1), [0, 0], ([BIG], 1, [0, 0]))

    def test_test_both_ways(self):
        node = ("test", ("under", A, B), 2, 3)
        self.step(node, [1, 2], ([], 2, [1, 2]))
        self.step(node, [2, 2], ([], 3, [2, 2]))
        self.step(node, [2, 1], ([], 3, [2, 1]))

    def test_end(self):
        program = program_of(BOXES, [], [END, END])
        self.assertIsNone(step_from(program, 0, [2, 4]))
        self.assertIsNone(step_from(program, 1, [0, 0]))

    def test_worths_that_are_none(self):
        nodes = [("put", "a", ONE, 0), ("say", ONE, 0), ("test", YES, 0, 0), END]
        program = program_of(BOXES, ["a"], nodes)
        for place in range(4):
            for worths in NO_WORTHS:
                with self.subTest(place=place, worths=worths):
                    self.assertRaises(NoWorths, step_from, program, place, worths)

    def test_lists_are_left_and_told_anew(self):
        nodes = [("put", "a", ONE, 0), ("say", ONE, 0), ("test", YES, 0, 0), ("test", ("not", YES), 0, 0), END]
        program = program_of(BOXES, ["a"], nodes)
        before = copy.deepcopy(program)
        for place in range(4):
            worths = [2, 4]
            first = step_from(program, place, worths)
            due = copy.deepcopy(first)
            self.assertEqual(worths, [2, 4])
            worths[1] = 0
            self.assertEqual(first, due)
            first[0].append(9)
            first[2].append(9)
            self.assertEqual(worths, [2, 0])
            self.assertEqual(step_from(program, place, [2, 4]), due)
        self.assertEqual(program, before)


def counter(bound):
    """Says a from the input on up to below the bound, then ends."""
    return program_of([("a", 16)], ["a"], [("test", ("under", A, ("number", bound)), 1, 3), ("say", A, 2),
                                           ("put", "a", more("a", ONE), 0), END])


class Runs(unittest.TestCase):
    def run_is(self, boxes, inputs, nodes, worths, due):
        answer = run_of(program_of(boxes, inputs, nodes), worths)
        self.assertEqual(answer, due)
        self.assertIs(type(answer), tuple)
        self.assertIs(type(answer[0]), list)
        self.assertIs(type(answer[2]), int)

    def test_ends(self):
        self.assertEqual(run_of(counter(10), [7]), ([7, 8, 9], None, 10))
        self.assertEqual(run_of(counter(10), [10]), ([], None, 1))
        self.assertEqual(run_of(counter(10), [15]), ([], None, 1))

    def test_ends_at_once(self):
        self.run_is([], [], [END], [], ([], None, 0))
        self.run_is(BOXES, ["a"], [END], [2], ([], None, 0))

    def test_goes_round_at_once(self):
        self.run_is([], [], [("test", YES, 0, 0)], [], ([], [], 0))
        self.run_is([], [], [("say", ONE, 0)], [], ([], [1], 0))
        self.run_is(BOXES, [], [("put", "a", A, 0)], [], ([], [], 0))
        self.run_is(BOXES, ["a"], [("say", A, 1), ("put", "a", more("a", ONE), 0)], [1], ([], [1, 2, 0], 0))

    def test_goes_round_behind_some_steps(self):
        nodes = [("say", ("number", 7), 1), ("put", "b", TWO, 2), ("say", ("less", A, B), 3),
                 ("put", "a", more("a", ONE), 2)]
        self.run_is(BOXES, ["a"], nodes, [1], ([7], [-1, 0, -2], 2))

    def test_goes_round_with_nothing_said_in_the_round(self):
        nodes = [("say", A, 1), ("say", ("number", 8), 2), ("put", "a", more("a", ONE), 3), ("test", YES, 2, 0)]
        self.run_is(BOXES, ["a"], nodes, [1], ([1, 8], [], 2))

    def test_goes_round_with_nothing_said_at_all(self):
        self.run_is(BOXES, [], [("put", "b", TWO, 1), ("test", YES, 1, 1)], [], ([], [], 1))

    def test_the_first_that_comes_again(self):
        nodes = [("say", B, 1), ("put", "b", ("number", 3), 2), ("say", A, 3), ("put", "a", more("a", ONE), 0)]
        self.run_is(BOXES, [], nodes, [], ([0], [0, 3, 1, 3, 2, 3], 2))

    def test_the_same_place_with_other_worths_is_no_round(self):
        nodes = [("put", "a", more("a", ONE), 1), ("test", ("same", A, NOUGHT), 2, 0), ("say", B, 3), END]
        self.run_is(BOXES, [], nodes, [], ([0], None, 7))

    def test_inputs_in_another_order_than_the_boxes(self):
        boxes = [("a", 3), ("b", 5), ("c", 7), ("d", 2)]
        nodes = [("say", A, 1), ("say", B, 2), ("say", C, 3), ("say", D, 4), END]
        self.run_is(boxes, ["c", "a"], nodes, [6, 2], ([2, 0, 6, 0], None, 4))
        self.run_is(boxes, ["d", "c", "b", "a"], nodes, [1, 5, 4, 2], ([2, 4, 5, 1], None, 4))
        self.run_is(boxes, [], nodes, [], ([0, 0, 0, 0], None, 4))

    def test_inputs_worths_that_are_none(self):
        program = program_of([("a", 3), ("b", 5), ("c", 7)], ["b", "a"], [END])
        for worths in ([], [0], [0, 0, 0], [-1, 0], [0, -1], [5, 0], [0, 3], [0, 4], [BIG, 0], [0, -BIG], [6, 2]):
            for asked in (lambda: run_of(program, worths), lambda: said_in(program, worths, 0),
                          lambda: said_in(program, worths, 5)):
                with self.subTest(worths), self.assertRaises(NoWorths):
                    asked()
        self.assertEqual(run_of(program, [4, 2]), ([], None, 0))
        self.assertRaises(NoWorths, run_of, program_of([("a", 3)], [], [END]), [0])

    def test_long_run_in_good_time(self):
        nodes = [("put", "a", more("a", ONE), 1), ("test", ("same", A, NOUGHT), 2, 0),
                 ("put", "b", more("b", ONE), 3), ("test", ("same", B, NOUGHT), 4, 0),
                 ("put", "c", more("c", ONE), 5), ("test", ("same", C, NOUGHT), 6, 0),
                 ("say", A, 7), ("put", "d", more("d", ONE), 8), ("test", ("same", D, NOUGHT), 9, 0), END]
        boxes = [("a", 16), ("b", 16), ("c", 16), ("d", 2)]
        begun = time.perf_counter()
        answer = run_of(program_of(boxes, [], nodes), [])
        steps = 2 * (2 * 16 ** 3 + 2 * 16 ** 2 + 2 * 16 + 3)
        self.assertEqual(answer, ([0, 0], None, steps))
        nodes[9] = ("test", YES, 0, 0)
        self.assertEqual(run_of(program_of(boxes, [], nodes), []), ([], [0, 0], 0))
        self.assertLess(time.perf_counter() - begun, 10)

    def test_lists_are_left_and_told_anew(self):
        round_about = program_of(BOXES, ["a"], [("say", ("number", 9), 1), ("say", A, 1)])
        for program, due in ((counter(5), ([2, 3, 4], None, 10)), (round_about, ([9], [2], 1))):
            before, inputs = copy.deepcopy(program), [2]
            first = run_of(program, inputs)
            self.assertEqual((program, inputs), (before, [2]))
            inputs.append(1)
            self.assertEqual(first, due)
            first[0].append(99)
            if first[1] is not None:
                first[1].append(99)
            self.assertEqual(run_of(program, [2]), due)
            self.assertEqual(program, before)


class Said(unittest.TestCase):
    def test_some_steps(self):
        program = counter(10)
        self.assertEqual(said_in(program, [7], 0), [])
        self.assertEqual(said_in(program, [7], 1), [])
        self.assertEqual(said_in(program, [7], 2), [7])
        self.assertEqual(said_in(program, [7], 4), [7])
        self.assertEqual(said_in(program, [7], 5), [7, 8])

    def test_more_steps_than_the_run_has(self):
        for steps in (8, 9, 10, 11, 10000):
            self.assertEqual(said_in(counter(10), [7], steps), [7, 8, 9])
        self.assertEqual(said_in(program_of([], [], [END]), [], 3), [])

    def test_ten_thousand_steps_of_a_run_that_never_ends(self):
        program = program_of(BOXES, ["a"], [("say", A, 1), ("put", "a", more("a", ONE), 0)])
        self.assertEqual(said_in(program, [1], 10000), [(1 + at) % 3 for at in range(5000)])
        self.assertEqual(said_in(program, [1], 9999), [(1 + at) % 3 for at in range(5000)])
        self.assertEqual(said_in(program, [1], 9998), [(1 + at) % 3 for at in range(4999)])

    def test_lists_are_left_and_told_anew(self):
        program, inputs = counter(10), [7]
        before = copy.deepcopy(program)
        first = said_in(program, inputs, 100)
        self.assertIs(type(first), list)
        self.assertEqual((program, inputs), (before, [7]))
        inputs.clear()
        self.assertEqual(first, [7, 8, 9])
        first.clear()
        self.assertEqual(said_in(program, [7], 100), [7, 8, 9])


class EveryInput(unittest.TestCase):
    def test_in_order(self):
        boxes = [("a", 2), ("b", 3), ("c", 1), ("d", 4)]
        self.assertEqual(every_input(program_of(boxes, ["a"], [END])), [[0], [1]])
        self.assertEqual(every_input(program_of(boxes, ["b", "a"], [END])),
                         [[0, 0], [0, 1], [1, 0], [1, 1], [2, 0], [2, 1]])
        told = every_input(program_of(boxes, ["d", "c", "b", "a"], [END]))
        self.assertEqual(told, [[d, 0, b, a] for d in range(4) for b in range(3) for a in range(2)])
        self.assertEqual(told, sorted(told))

    def test_no_inputs(self):
        for boxes in ([], BOXES):
            self.assertEqual(every_input(program_of(boxes, [], [END])), [[]])

    def test_many(self):
        program = program_of([("a", 16), ("b", 16), ("c", 15)], ["c", "a", "b"], [END])
        told = every_input(program)
        self.assertEqual(len(told), 16 * 16 * 15)
        self.assertEqual((told[0], told[1], told[-1]), ([0, 0, 0], [0, 0, 1], [14, 15, 15]))

    def test_each_is_its_own_list(self):
        for inputs in (["a"], ["b", "a"], []):
            program = program_of(BOXES, inputs, [END])
            before = copy.deepcopy(program)
            due = every_input(program)
            told = every_input(program)
            self.assertIs(type(told), list)
            self.assertTrue(all(type(row) is list for row in told))
            told[0].append(9)
            self.assertEqual(told[1:], due[1:])
            told.append([7])
            self.assertEqual(every_input(program), due)
            self.assertEqual(program, before)

    def test_each_begins_a_run(self):
        program = program_of(BOXES, ["b", "a"], [("say", B, 1), ("say", A, 2), END])
        for worths in every_input(program):
            self.assertEqual(run_of(program, worths), (worths, None, 2))


def some_sum(dice, names, depth):
    if depth == 0 or dice.random() < 0.4:
        return ("box", dice.choice(names)) if dice.random() < 0.7 else ("number", dice.randrange(5))
    return (dice.choice(("plus", "less")), some_sum(dice, names, depth - 1), some_sum(dice, names, depth - 1))


def some_node(dice, names, many):
    kind = dice.choice(("put", "put", "say", "test", "test"))
    if kind == "put":
        return ("put", dice.choice(names), some_sum(dice, names, 2), dice.randrange(many))
    if kind == "say":
        return ("say", some_sum(dice, names, 2), dice.randrange(many))
    condition = (dice.choice(("same", "under")), some_sum(dice, names, 1), some_sum(dice, names, 1))
    return ("test", condition, dice.randrange(many), dice.randrange(many))


def some_program(dice):
    boxes = [(name, dice.randrange(1, 5)) for name in "abc"]
    inputs = dice.sample(list("abc"), dice.randrange(4))
    many = dice.randrange(2, 8)
    return program_of(boxes, inputs, [some_node(dice, "abc", many) for at in range(many - 1)] + [END])


def walked(program, inputs, steps):
    """What is said step by step, a list for each step that there is, and the places and worths met."""
    given = dict(zip(program[1], inputs))
    place, worths = 0, [given.get(name, 0) for name, size in program[0]]
    spoken, met = [], [(0, worths)]
    for at in range(steps):
        step = step_from(program, place, worths)
        if step is None:
            break
        said, place, worths = step
        spoken.append(said)
        met.append((place, worths))
    return spoken, met


class ManyPrograms(unittest.TestCase):
    def test_runs_are_what_the_steps_come_to(self):
        dice = random.Random(2026)
        ended = rounds = 0
        for many in range(150):
            program = some_program(dice)
            for inputs in every_input(program)[:6]:
                spoken, met = walked(program, inputs, 1000)
                flat = [number for said in spoken for number in said]
                self.assertEqual(said_in(program, inputs, 1000), flat)
                if len(spoken) < 1000:
                    ended += 1
                    self.assertEqual(run_of(program, inputs), (flat, None, len(spoken)))
                    continue
                rounds += 1
                first = min(at for at in range(len(met)) if met[at] in met[at + 1:at + 500])
                again = met.index(met[first], first + 1)
                ahead = sum(spoken[:first], [])
                self.assertEqual(run_of(program, inputs), (ahead, sum(spoken[first:again], []), first))
        self.assertGreater(min(ended, rounds), 50)


if __name__ == "__main__":
    unittest.main()
