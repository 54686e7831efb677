"""[2], [3], [35] to [38]: programs with picks, what they show, and whether one is within another."""

import copy
import itertools
import random
import time
import unittest

from helper import A, B, C, END, NO, NO_PAIRS, NOUGHT, ONE, PLAIN, TWO, YES, all_worths, begins, line, more, some_node, \
    some_pair
from twinwalk.between import runs_part
from twinwalk.errors import NoPair, NoProgram, NoWorths, TooMany
from twinwalk.picks import answers_show, picked_program, shown_runs, within_told
from twinwalk.programs import program_of
from twinwalk.runs import every_input, run_of, step_from


def number(told):
    return ("number", told)


def silent(program, state):
    """The states behind one by a step that says nothing, [35] word by word."""
    place, worths = state
    node = program[2][place]
    if node[0] in ("say", "end"):
        return []
    if node[0] != "pick":
        said, behind, changed = step_from(program, place, list(worths))
        return [(behind, tuple(changed))]
    at = [name for name, size in program[0]].index(node[1])
    return [(node[2], worths[:at] + (worth,) + worths[at + 1:]) for worth in range(program[0][at][1])]


def spoken(program, state):
    if program[2][state[0]][0] != "say":
        return []
    said, place, worths = step_from(program, state[0], list(state[1]))
    return [(said[0], (place, tuple(worths)))]


def closed(program, states):
    found, left = set(), list(states)
    while left:
        state = left.pop()
        if state not in found:
            found.add(state)
            left.extend(silent(program, state))
    return found


def lasting(program, states):
    """Those of the states, with all that is behind them, from which a run may go on for ever saying nothing."""
    stay = set(states)
    while True:
        less = {state for state in stay if stay & set(silent(program, state))}
        if less == stay:
            return stay
        stay = less


def first_state(program, inputs):
    return (0, tuple(begins(program, inputs)))


def shown_as_told(program, inputs, many):
    """[36] word by word: all states and numbers said, one behind the other."""
    found, left = set(), [((), first_state(program, inputs))]
    while left:
        at = left.pop()
        if at not in found:
            found.add(at)
            said, state = at
            left.extend((said, behind) for behind in silent(program, state))
            left.extend((said + (told,), behind) for told, behind in spoken(program, state) if len(said) < many)
    lasts = lasting(program, closed(program, [state for said, state in found]))
    shown = {(said, "said") for said, state in found}
    shown |= {(said, "ends") for said, state in found if program[2][state[0]] == END}
    shown |= {(said, "still") for said, state in found if state in lasts}
    return sorted(shown)


def answers_as_told(one, other, paper):
    """[38] word by word."""
    for place, worths, crowd in paper:
        for program, state in [(one, (place, worths))] + [(other, state) for state in crowd]:
            if state[0] not in range(len(program[2])) or list(state[1]) not in all_worths(program):
                return False
    known = set(paper)
    for inputs in every_input(one):
        begun = first_state(other, inputs)
        crowds = [crowd for place, worths, crowd in paper if (place, worths) == first_state(one, inputs)]
        if not any(begun in crowd and set(crowd) <= closed(other, [begun]) for crowd in crowds):
            return False
    return all(answer_as_told(one, other, known, *answer) for answer in known)


def answer_as_told(one, other, known, place, worths, crowd):
    state, kind = (place, worths), one[2][place][0]
    if not all(set(silent(other, there)) <= set(crowd) for there in crowd):
        return False
    if not all((behind[0], behind[1], crowd) in known for behind in silent(one, state)):
        return False
    for said, behind in spoken(one, state):
        led = [to for there in crowd for told, to in spoken(other, there) if told == said]
        if not led or (behind[0], behind[1], tuple(sorted(closed(other, led)))) not in known:
            return False
    if kind == "end" and not any(other[2][there[0]] == END for there in crowd):
        return False
    mine, yours = lasting(one, closed(one, [state])), lasting(other, closed(other, crowd))
    return state not in mine or any(there in yours for there in crowd)


def lost_as_told(one, other, many):
    """[37]: the first that is lost within so many numbers, None where nothing is."""
    for inputs in every_input(one):
        shown = shown_as_told(other, inputs, many)
        lost = [told for told in shown_as_told(one, inputs, many) if told not in shown]
        if lost:
            said, end = min(lost, key=lambda told: (len(told[0]), told))
            return ("without", inputs, said, end)
    return None


def some_picked(dice, inputs, others):
    """A program by chance in which some nodes are picks."""
    boxes = list(inputs) + list(others)
    dice.shuffle(boxes)
    many, names = dice.randrange(1, 7), [name for name, size in boxes]
    nodes = []
    for at in range(many):
        if names and dice.random() < 0.35:
            nodes.append(("pick", dice.choice(names), dice.randrange(many)))
        else:
            nodes.append(some_node(dice, names, many))
    return picked_program(boxes, [name for name, size in inputs], nodes)


def some_two(dice):
    """Two programs with picks of the same inputs, the second one often a little changed."""
    inputs = [(name, dice.randrange(1, 3)) for name in "ab"[:dice.randrange(3)]]
    one = some_picked(dice, inputs, [("c", dice.randrange(1, 4))])
    if dice.random() < 0.5:
        return one, some_picked(dice, inputs, [("d", 3)][:dice.randrange(2)])
    nodes = list(one[2])
    at = dice.randrange(len(nodes))
    nodes[at] = ("pick", dice.choice(one[0])[0], dice.randrange(len(nodes)))
    return one, picked_program(one[0] + [("e", 2)], one[1], nodes)


class Made(unittest.TestCase):
    def test_programs_with_picks(self):
        boxes, inputs = [("a", 3), ("b", 2)], ["b"]
        nodes = [("pick", "a", 1), ("pick", "b", 2), ("say", A, 3), ("put", "a", B, 4), ("test", YES, 0, 5), END]
        self.assertEqual(picked_program(boxes, inputs, nodes), (boxes, inputs, nodes))
        self.assertEqual(picked_program([], [], [END]), ([], [], [END]))
        self.assertEqual(picked_program([("pick", 1)], [], [("pick", "pick", 0)])[2], [("pick", "pick", 0)])

    def test_refused(self):
        good = [("a", 3)]
        for boxes, inputs, nodes in ((good, [], [("pick", "b", 0)]), (good, [], [("pick", "a", 1)]),
                                     (good, [], [("pick", "a", -1)]), (good, [], [END, ("pick", "b", 0)]),
                                     (good, [], [("pick", "a", 2), END]), ([], [], [("pick", "a", 0)]),
                                     ([("a", 0)], [], [("pick", "a", 0)]), ([("a", 2), ("a", 2)], [], [("pick", "a", 0)]),
                                     (good, ["b"], [("pick", "a", 0)]), (good, ["a", "a"], [("pick", "a", 0)]),
                                     (good, [], []), (good, [], [("pick", "a", 1), ("say", B, 0)]),
                                     (good, [], [("pick", "a", 1), ("say", A, 2)]),
                                     (good, [], [("pick", "a", 1), ("put", "b", A, 0)]),
                                     (good, [], [("pick", "a", 1), ("put", "a", ("plus", ONE, C), 0)]),
                                     (good, [], [("pick", "a", 1), ("test", ("both", NO, ("same", B, B)), 0, 0)]),
                                     (good, [], [("pick", "a", 1), ("test", YES, 0, 2)])):
            with self.subTest(nodes=nodes):
                self.assertRaises(NoProgram, picked_program, boxes, inputs, nodes)

    def test_lists_are_new(self):
        boxes, inputs, nodes = [("a", 3)], ["a"], [("pick", "a", 0)]
        told = picked_program(boxes, inputs, nodes)
        again = picked_program(boxes, inputs, nodes)
        for part in told:
            part.clear()
        self.assertEqual((boxes, inputs, nodes), ([("a", 3)], ["a"], [("pick", "a", 0)]))
        boxes.clear(), inputs.clear(), nodes.clear()
        self.assertEqual(again, ([("a", 3)], ["a"], [("pick", "a", 0)]))


class Shown(unittest.TestCase):
    def shown(self, program, inputs, many, due=None):
        before = copy.deepcopy((program, inputs))
        told = shown_runs(program, inputs, many)
        self.assertEqual((program, inputs), before)
        self.assertIs(type(told), list)
        self.assertEqual(told, shown_as_told(program, inputs, many))
        for row in told:
            self.assertEqual([type(row), type(row[0]), type(row[1])], [tuple, tuple, str])
        if due is not None:
            self.assertEqual(told, due)
        copied = list(told)
        told.clear()
        self.assertEqual(shown_runs(program, inputs, many), copied)
        return copied

    def test_without_picks(self):
        said = program_of([("a", 3)], ["a"], [("say", A, 1), ("say", ("less", A, TWO), 2), END])
        self.shown(said, [1], 0, [((), "said")])
        self.shown(said, [1], 1, [((), "said"), ((1,), "said")])
        for many in (2, 3, 63):
            self.shown(said, [1], many, [((), "said"), ((1,), "said"), ((1, -1), "ends"), ((1, -1), "said")])
        self.shown(program_of([], [], [END]), [], 3, [((), "ends"), ((), "said")])
        still = program_of([], [], [("say", ONE, 1), ("test", YES, 1, 0)])
        self.shown(still, [], 0, [((), "said")])
        self.shown(still, [], 1, [((), "said"), ((1,), "said"), ((1,), "still")])
        self.shown(program_of([], [], [("test", YES, 0, 0)]), [], 63, [((), "said"), ((), "still")])

    def test_sixty_three_numbers(self):
        endless = program_of([("a", 5)], [], [("say", A, 1), ("put", "a", more("a"), 0)])
        told = self.shown(endless, [], 63)
        self.assertEqual(told[-1], (tuple(at % 5 for at in range(63)), "said"))
        self.assertEqual(len(told), 64)
        counted = program_of([("a", 16), ("b", 4)], [], [("say", A, 1), ("put", "a", more("a"), 2),
                                                         ("test", ("same", A, NOUGHT), 3, 0), ("put", "b", more("b"), 4),
                                                         ("test", ("same", B, number(3)), 5, 0), END])
        self.assertEqual(len(self.shown(counted, [], 48)), 50)
        self.assertEqual(len(self.shown(counted, [], 47)), 48)

    def test_picks(self):
        picked = picked_program([("a", 3)], [], [("pick", "a", 1), ("say", A, 2), END])
        self.shown(picked, [], 0, [((), "said")])
        self.shown(picked, [], 2, [((), "said")] + [((a,), end) for a in range(3) for end in ("ends", "said")])
        below = picked_program([("a", 3)], [], [("pick", "a", 1), ("say", ("less", ONE, A), 0)])
        told = self.shown(below, [], 3)
        self.assertEqual(len(told), 1 + 3 + 9 + 27)
        self.assertEqual(told[:3], [((), "said"), ((-1,), "said"), ((-1, -1), "said")])

    def test_a_run_that_may_end_and_may_go_on_for_ever(self):
        either = picked_program([("a", 2)], [], [("pick", "a", 1), ("test", ("same", A, NOUGHT), 2, 3), END,
                                                 ("test", YES, 3, 3)])
        self.shown(either, [], 0, [((), "ends"), ((), "said"), ((), "still")])
        late = picked_program([("a", 3)], [], [("pick", "a", 1), ("test", ("same", A, NOUGHT), 2, 3), END,
                                               ("say", A, 0)])
        self.shown(late, [], 2)

    def test_a_silent_round_that_is_left_by_a_pick(self):
        left = picked_program([("a", 2)], [], [("pick", "a", 1), ("test", ("same", A, NOUGHT), 0, 2), ("say", A, 3), END])
        self.shown(left, [], 3, [((), "said"), ((), "still"), ((1,), "ends"), ((1,), "said")])
        two = picked_program([("a", 2), ("b", 2)], [], [("pick", "a", 1), ("pick", "b", 2), ("test", ("same", A, B), 3, 0),
                                                        ("say", A, 0)])
        self.shown(two, [], 2)
        once = picked_program([("a", 2)], [], [("pick", "a", 1), ("test", ("same", A, NOUGHT), 2, 2), ("say", A, 0)])
        self.assertNotIn("still", [end for said, end in self.shown(once, [], 2)])

    def test_a_pick_of_a_box_of_one(self):
        self.shown(picked_program([("a", 1)], [], [("pick", "a", 0)]), [], 3, [((), "said"), ((), "still")])
        self.shown(picked_program([("a", 1)], [], [("pick", "a", 1), END]), [], 3, [((), "ends"), ((), "said")])

    def test_a_pick_of_an_input(self):
        program = picked_program([("a", 2), ("b", 3)], ["b"], [("say", B, 1), ("pick", "b", 2), ("say", B, 3), END])
        for b in range(3):
            self.assertEqual({said[0] for said, end in self.shown(program, [b], 3) if said}, {b})

    def test_worths_that_are_none(self):
        program = picked_program([("a", 2), ("b", 3)], ["b", "a"], [("pick", "a", 0)])
        for inputs in ([], [0], [0, 0, 0], [3, 0], [0, 2], [-1, 0], [0, -1], [10 ** 30, 0]):
            for many in (0, 3):
                self.assertRaises(NoWorths, shown_runs, program, inputs, many)

    def test_by_chance(self):
        dice = random.Random(36)
        ends = []
        for many in range(400):
            program = some_two(dice)[0]
            for inputs in every_input(program)[:2]:
                ends.extend(end for said, end in self.shown(program, inputs, dice.randrange(4)))
        self.assertGreater(min(ends.count("ends"), ends.count("still")), 100)


class Within(unittest.TestCase):
    def within(self, one, other):
        told = within_told(one, other)
        self.assertEqual((type(told), told[0], len(told)), (tuple, "within", 2))
        paper = told[1]
        self.assertIs(type(paper), list)
        self.assertEqual(paper, sorted(set(paper)))
        for place, worths, crowd in paper:
            self.assertEqual([type(worths), type(crowd)], [tuple, tuple])
            self.assertEqual(crowd, tuple(sorted(set(crowd))))
        self.assertIs(answers_show(one, other, paper), True)
        self.assertEqual(paper, come_as_told(one, other))
        return paper

    def without(self, one, other, *due):
        told = within_told(one, other)
        self.assertEqual(told, ("without",) + due)
        self.assertEqual([type(part) for part in told], [tuple, str, list, tuple, str][1:])

    def told(self, one, other):
        """Two programs of these nodes, with boxes of three."""
        return [picked_program([("a", 3), ("b", 3)], [], nodes) for nodes in (one, other)]

    def test_fewer_picks(self):
        some = picked_program([("a", 3)], [], [("pick", "a", 1), ("say", A, 2), END])
        one = program_of([], [], [("say", TWO, 1), END])
        self.within(one, some)
        self.without(some, one, [], (0,), "ends")
        self.within(some, some)

    def test_only_the_end_is_lost(self):
        goes_on = [("say", ONE, 1), ("pick", "a", 2), ("test", ("same", A, NOUGHT), 0, 3), END]
        one, other = self.told(goes_on, goes_on[:2] + [("test", YES, 0, 3), END])
        self.without(one, other, [], (1,), "ends")
        self.within(other, one)
        silent_too = goes_on[:3] + [("test", YES, 3, 3)]
        third, fourth = self.told(silent_too, goes_on)
        self.without(third, fourth, [], (1,), "still")
        self.without(fourth, third, [], (1,), "ends")

    def test_the_end_goes_by_the_alphabet(self):
        many = [("pick", "a", 1), ("test", ("same", A, NOUGHT), 2, 3), END, ("test", ("same", A, ONE), 3, 4), ("say", A, 0)]
        one, other = self.told(many, [("say", TWO, 0)])
        self.without(one, other, [], (), "ends")
        third, fourth = self.told([("say", ONE, 1)] + [("test", YES, 1, 1)], [("say", TWO, 0)])
        self.without(third, fourth, [], (1,), "said")
        fifth, sixth = self.told([("say", ONE, 1), END], [("say", TWO, 0)])
        self.without(fifth, sixth, [], (1,), "ends")

    def test_the_first_by_its_numbers(self):
        one, other = self.told([("pick", "a", 1), ("say", ("less", A, TWO), 2), ("pick", "b", 3), ("say", B, 0)],
                               [("pick", "a", 1), ("say", ("less", A, TWO), 2), ("pick", "b", 3),
                                ("say", ("less", B, ONE), 0)])
        self.without(one, other, [], (-2, 2), "said")
        self.without(other, one, [], (-2, -1), "said")
        third, fourth = self.told([("pick", "a", 1), ("say", ("less", NOUGHT, A), 0)], [("say", NOUGHT, 0)])
        self.without(third, fourth, [], (-2,), "said")

    def test_the_shortest_goes_ahead_of_the_first(self):
        nodes = [("pick", "a", 1), ("say", A, 2), ("test", ("same", A, NOUGHT), 3, 4), ("say", ONE, 5), ("say", TWO, 5), END]
        lesser = nodes[:2] + [("test", ("same", A, NOUGHT), 3, 4), ("say", NOUGHT, 5), ("say", NOUGHT, 5), END]
        one, other = self.told(nodes, lesser)
        self.without(one, other, [], (0, 1), "ends")
        third, fourth = self.told(nodes, [("pick", "a", 1), ("test", ("same", A, TWO), 0, 2), ("say", A, 3),
                                          ("test", YES, 4, 4), ("say", NOUGHT, 5), END])
        self.without(third, fourth, [], (2,), "said")

    def test_a_long_list(self):
        for many in (5, 40, 200):
            boxes = [("a", 16), ("b", 16)]
            nodes = [("say", A, 1), ("put", "a", more("a"), 2), ("test", ("same", A, NOUGHT), 3, 0),
                     ("put", "b", more("b"), 4), ("test", YES, 0, 0)]
            last = ("both", ("same", A, number(many % 16)), ("same", B, number(many // 16)))
            one = program_of(boxes, [], nodes)
            other = program_of(boxes, [], [("test", last, 6, 5)] + nodes[1:] + [nodes[0], ("say", TWO, 1)])
            said = tuple(at % 16 for at in range(many + 1))
            if said[-1] != 2:
                self.without(one, other, [], said, "said")
            ended = program_of(boxes, [], [("test", last, 6, 5)] + nodes[1:] + [nodes[0], END])
            self.without(one, ended, [], said, "said")
            self.without(ended, one, [], said[:-1], "ends")

    def test_the_first_inputs(self):
        boxes = [("a", 3), ("b", 2)]
        one = picked_program(boxes, ["a", "b"], [("test", ("both", ("same", A, ONE), ("same", B, ONE)), 1, 2),
                                                 ("pick", "a", 2), ("say", A, 3), END])
        other = picked_program(boxes, ["a", "b"], [("say", A, 1), END])
        self.without(one, other, [1, 1], (0,), "ends")
        self.within(other, one)
        turned = [picked_program(boxes, ["b", "a"], program[2]) for program in (one, other)]
        self.without(*turned, [1, 1], (0,), "ends")
        silent_one = picked_program(boxes, ["a", "b"], [("test", ("under", A, TWO), 1, 0), ("say", A, 2), END])
        self.without(silent_one, other, [2, 0], (), "still")
        self.without(other, silent_one, [2, 0], (2,), "ends")

    def test_other_boxes_are_others(self):
        one = picked_program([("a", 2)], ["a"], [("pick", "a", 1), ("say", A, 2), END])
        other = picked_program([("q", 2), ("a", 2), ("r", 3)], ["a"], [("pick", "q", 1), ("pick", "r", 2),
                                                                      ("say", ("box", "q"), 3), END])
        self.within(one, other)
        self.within(other, one)

    def test_a_paper_by_hand(self):
        one = program_of([], [], [("test", YES, 1, 1), ("say", ONE, 2), END])
        other = picked_program([("a", 2)], [], [("pick", "a", 1), ("say", A, 2), END])
        first = ((0, (0,)), (1, (0,)), (1, (1,)))
        self.assertEqual(self.within(one, other), [(0, (), first), (1, (), first), (2, (), ((2, (1,)),))])

    def test_without_picks_both_ways_just_where_no_inputs_part(self):
        dice, found = random.Random(371), []
        for many in range(250):
            one, other = some_pair(dice)
            parted = [inputs for inputs in every_input(one) if runs_part(one, other, inputs)]
            for first, second in ((one, other), (other, one)):
                told = within_told(first, second)
                found.append(told[0])
                self.assertEqual(told[0] == "without", bool(parted))
                if parted:
                    self.assertEqual(told[1], parted[0])
                else:
                    self.assertIs(answers_show(first, second, told[1]), True)
        self.assertGreater(min(found.count("within"), found.count("without")), 100)

    def test_by_chance(self):
        dice, found = random.Random(37), {"within": 0, "without": 0}
        while min(found.values()) < 120:
            one, other = some_two(dice)
            told = within_told(one, other)
            found[told[0]] += 1
            if told[0] == "without":
                if len(told[2]) < 5:
                    self.assertEqual(told, lost_as_told(one, other, len(told[2])))
            else:
                self.within(one, other)
                self.assertTrue(answers_as_told(one, other, told[1]))
                self.assertIsNone(lost_as_told(one, other, 2))

    def test_no_pair(self):
        for other in NO_PAIRS:
            for first, second in ((PLAIN, other), (other, PLAIN)):
                self.assertRaises(NoPair, within_told, first, second)
                for paper in ([], [(9, (-1,), ((5, ()),))], [(0, (0, 0), ())]):
                    self.assertRaises(NoPair, answers_show, first, second, paper)

    def test_lists_are_left_and_told_anew(self):
        one = picked_program([("a", 2)], ["a"], [("pick", "a", 1), ("say", A, 0)])
        other = picked_program([("a", 2)], ["a"], [("say", A, 0)])
        before = copy.deepcopy((one, other))
        for first, second in ((one, other), (other, one), (one, one)):
            told = within_told(first, second)
            due = copy.deepcopy(told)
            told[1].clear()
            self.assertEqual(within_told(first, second), due)
            self.assertEqual((one, other), before)


def come_as_told(one, other):
    """The tuples come to, sorted."""
    left = [(first_state(one, inputs), tuple(sorted(closed(other, [first_state(other, inputs)]))))
            for inputs in every_input(one)]
    found = set()
    while left:
        state, crowd = left.pop()
        if state + (crowd,) not in found:
            found.add(state + (crowd,))
            left.extend((behind, crowd) for behind in silent(one, state))
            for said, behind in spoken(one, state):
                led = [to for there in crowd for told, to in spoken(other, there) if told == said]
                left.append((behind, tuple(sorted(closed(other, led)))))
    return sorted(found)


class AnswersShow(unittest.TestCase):
    def setUp(self):
        self.one = picked_program([("a", 2)], ["a"], [("test", ("same", A, NOUGHT), 1, 2), ("pick", "a", 2), ("say", A, 3),
                                                      ("test", ("same", A, NOUGHT), 3, 4), END])
        self.other = picked_program([("a", 2), ("b", 2)], ["a"], [("test", ("same", A, NOUGHT), 1, 2), ("pick", "b", 3),
                                                                  ("put", "b", A, 3), ("say", B, 4),
                                                                  ("test", ("same", B, NOUGHT), 4, 5), END])
        self.paper = within_told(self.one, self.other)[1]

    def shows(self, paper, due, one=None, other=None):
        one, other = one or self.one, other or self.other
        before = copy.deepcopy((one, other, paper))
        answer = answers_show(one, other, paper)
        self.assertIs(answer, due)
        self.assertEqual((one, other, paper), before)
        self.assertIs(answers_as_told(one, other, paper), due)

    def test_in_any_order_some_twice(self):
        self.shows(self.paper, True)
        self.shows(self.paper[::-1], True)
        self.shows(self.paper + self.paper[2:5], True)
        dice = random.Random(38)
        for many in range(5):
            self.shows(dice.sample(self.paper, len(self.paper)), True)

    def test_a_tuple_less(self):
        for at in range(len(self.paper)):
            self.shows(self.paper[:at] + self.paper[at + 1:], False)
        self.shows([], False)
        nothing = program_of([], [], [END])
        self.shows([], False, nothing, nothing)

    def test_another_crowd(self):
        for at, (place, worths, crowd) in enumerate(self.paper):
            for state in ((0, (0, 0)), (5, (1, 1)), (4, (0, 0))):
                other = tuple(sorted(set(crowd) ^ {state}))
                self.shows(self.paper[:at] + [(place, worths, other)] + self.paper[at + 1:], False)
            self.shows(self.paper[:at] + [(place, worths, ())] + self.paper[at + 1:], False)

    def test_more_tuples_than_are_come_to(self):
        end = (4, (1,), ((4, (0, 1)), (5, (0, 1))))
        self.shows(self.paper + [end], True)
        wide = (4, (0,), tuple(sorted(closed(self.other, [(0, (0, 0)), (4, (1, 1))]))))
        self.shows(self.paper + [wide], True)
        self.shows(self.paper + [(4, (0,), ((4, (0, 0)),))], False)
        self.shows(self.paper + [(4, (0,), ((4, (0, 1)),))], False)
        self.shows(self.paper + [(3, (1,), end[2])], end in self.paper)
        self.shows(self.paper + [(3, (1,), end[2]), end], True)
        self.shows(self.paper + [(3, (0,), end[2])], False)
        self.shows(self.paper + [(4, (0,), ())], False)
        self.shows(self.paper + [(2, (0,), end[2])], False)

    def test_places_and_worths_that_are_none(self):
        for wrong in ((5, (0,), ()), (-1, (0,), ()), (0, (), ()), (0, (0, 0), ()), (0, (2,), ()), (0, (-1,), ())):
            for crowd in ((), ((5, (0, 0)),), self.paper[0][2]):
                self.shows(self.paper + [wrong[:2] + (crowd,)], False)
        for wrong in ((6, (0, 0)), (-1, (0, 0)), (0, ()), (0, (0,)), (0, (0, 0, 0)), (0, (2, 0)), (0, (0, -1)), (0, (0, 2))):
            self.shows(self.paper + [(4, (0,), tuple(sorted([(5, (0, 0)), wrong])))], False)
            self.shows(self.paper + [(4, (0,), (wrong,))], False)
        # At an end nothing else could be wrong.
        ended = ((5, (0, 0)),)
        self.shows(self.paper + [(4, (0,), ended)], True)
        for worths in ((), (0, 0), (2,), (-1,)):
            self.shows(self.paper + [(4, worths, ended)], False)
        for worths in ((), (0,), (0, 0, 0), (2, 0), (0, 2), (-1, 0), (0, -1)):
            self.shows(self.paper + [(4, (0,), tuple(sorted(((5, worths),) + ended)))], False)

    def test_the_beginning_has_nothing_else(self):
        one = program_of([("a", 2)], [], [END])
        other = program_of([("a", 2)], [], [("test", ("same", A, NOUGHT), 1, 1), END])
        begun = [(0, (0,), ((0, (0,)), (1, (0,))))]
        self.shows(begun, True, one, other)
        self.shows([(0, (0,), ((0, (0,)), (1, (0,)), (1, (1,))))], False, one, other)
        self.shows([(0, (0,), ((0, (0,)), (1, (0,)), (1, (1,))))] + begun, True, one, other)
        self.shows([(0, (0,), ((1, (0,)),))], False, one, other)
        self.shows([(0, (0,), ((0, (0,)),))], False, one, other)
        self.shows([(0, (1,), ((0, (0,)), (1, (0,))))], False, one, other)

    def test_single_reasons(self):
        """Programs of which the first one isn't within the second one, with all that is come to."""
        say, two, end = ("say", ONE, 1), ("say", TWO, 1), END
        still, either = ("test", YES, 1, 1), ("pick", "a", 2)
        tails = [[end], [still], [either, ("test", ("same", A, NOUGHT), 3, 4), end, ("test", YES, 4, 4)],
                 [("say", ONE, 1)], [("pick", "a", 1)]]
        for head, tail, heard, other_tail in itertools.product((say, two), tails, (say, two), tails):
            one = picked_program([("a", 2)], [], [head] + tail)
            other = picked_program([("a", 2)], [], [heard] + other_tail)
            come = come_as_told(one, other)
            self.shows(come, within_told(one, other)[0] == "within", one, other)

    def test_a_crowd_that_can_say_nothing_of_it(self):
        one = program_of([], [], [("say", ONE, 0)])
        other = program_of([], [], [("say", TWO, 0)])
        self.shows([(0, (), ((0, ()),)), (0, (), ())], False, one, other)
        self.shows([(0, (), ((0, ()),))], True, one, one)
        self.shows([(0, (), ((0, ()),)), (0, (), ())], False, one, one)

    def test_by_chance(self):
        dice, found = random.Random(39), []
        while len(found) < 400:
            one, other = some_two(dice)
            told = within_told(one, other)
            if told[0] == "within" and len(told[1]) < 30:
                changed = list(told[1])
                for many in range(dice.randrange(1, 3)):
                    at = dice.randrange(len(changed))
                    place, worths, crowd = changed[at]
                    states = [(q, tuple(yours)) for q in range(len(other[2])) for yours in all_worths(other)]
                    some = tuple(sorted(set(crowd) ^ {dice.choice(states)}))
                    kind = dice.randrange(4)
                    if kind == 0:
                        changed[at] = (place, worths, some)
                    elif kind == 1:
                        changed.append((dice.randrange(len(one[2])), worths, crowd))
                    elif kind == 2:
                        changed.append((place, tuple(dice.choice(all_worths(one))),
                                        tuple(sorted(closed(other, some)))))
                    elif len(changed) > 1:
                        del changed[at]
                found.append(answers_show(one, other, changed))
                self.assertIs(found[-1], answers_as_told(one, other, changed))
        self.assertGreater(min(found.count(True), found.count(False)), 60)


class Bounds(unittest.TestCase):
    def test_two_thousand_tuples_and_one_more(self):
        sizes = [("a", 16), ("b", 5)]
        least = program_of(sizes, ["a", "b"], [END])
        told = within_told(line(24, sizes, ["a", "b"]), least)
        self.assertEqual((told[0], len(told[1])), ("within", 2000))
        self.assertIs(answers_show(line(24, sizes, ["a", "b"]), least, told[1]), True)
        nodes = [("test", ("both", ("same", A, number(15)), ("same", B, number(4))), 25, 1)]
        nodes.extend([("test", YES, at + 1, 0) for at in range(1, 24)] + [END, ("test", YES, 1, 0)])
        above = program_of(sizes, ["a", "b"], nodes)
        self.assertRaises(TooMany, within_told, above, least)
        self.assertEqual(within_told(least, above)[0], "within")

    def test_without_ahead_of_too_many(self):
        sizes, names = [("a", 16), ("b", 16), ("c", 15)], ["a", "b", "c"]
        one = line(9, sizes, names)
        last = ("both", ("same", A, number(15)), ("both", ("same", B, number(15)), ("same", C, number(14))))
        other = program_of(sizes, names, [("test", last, 1, 2), ("say", ONE, 2), END])
        begun = time.perf_counter()
        self.assertRaises(TooMany, within_told, one, one)
        self.assertEqual(within_told(one, other), ("without", [15, 15, 14], (), "ends"))
        self.assertEqual(within_told(other, one), ("without", [15, 15, 14], (1,), "ends"))
        self.assertLess(time.perf_counter() - begun, 60)

    def test_many_picks_in_good_time(self):
        boxes = [("a", 16), ("b", 16), ("c", 16)]
        nodes = [("pick", "a", 1), ("pick", "b", 2), ("pick", "c", 3), ("say", ("plus", A, ("plus", B, C)), 0)]
        one = picked_program(boxes, [], nodes)
        fewer = picked_program([("a", 16)], [], [("pick", "a", 1), ("say", ("plus", A, A), 0)])
        begun = time.perf_counter()
        self.assertEqual(len(shown_runs(one, [], 3)), 1 + 46 + 46 ** 2 + 46 ** 3)
        self.assertEqual(within_told(fewer, one)[0], "within")
        self.assertEqual(within_told(one, fewer), ("without", [], (1,), "said"))
        self.assertRaises(TooMany, within_told, one, one)
        self.assertLess(time.perf_counter() - begun, 60)

    def test_long_runs_in_good_time(self):
        boxes = [("a", 16), ("b", 16), ("c", 16)]
        nodes = []
        for at, name in enumerate(("a", "b", "c")):
            nodes.extend([("put", name, more(name), 2 * at + 1),
                          ("test", ("same", ("box", name), NOUGHT), 2 * at + 2, 0)])
        one = program_of(boxes, [], nodes + [("say", C, 7), END])
        begun = time.perf_counter()
        self.assertRaises(TooMany, within_told, one, one)
        self.assertEqual(within_told(program_of([], [], [("say", NOUGHT, 1), END]), one)[0], "within")
        self.assertEqual(shown_runs(one, [], 63), [((), "said"), ((0,), "ends"), ((0,), "said")])
        self.assertLess(time.perf_counter() - begun, 60)

    def test_rounds_of_other_lengths_in_good_time(self):
        rounds = []
        for sizes in ([("a", 16), ("b", 16)], [("a", 15), ("b", 13)]):
            nodes = [("say", NOUGHT, 1)]
            for at, (name, size) in enumerate(sizes):
                nodes.extend([("put", name, more(name), 2 * at + 2),
                              ("test", ("same", ("box", name), NOUGHT), 2 * at + 3, 0)])
            for last in (("test", YES, 0, 0), ("say", ONE, 0)):
                rounds.append(program_of(sizes, [], nodes + [last]))
        begun = time.perf_counter()
        self.assertRaises(TooMany, within_told, rounds[0], rounds[2])
        self.assertEqual(within_told(rounds[0], rounds[1]), ("without", [], (0,) * 257, "said"))
        self.assertEqual(within_told(rounds[1], rounds[3]), ("without", [], (0,) * 196, "said"))
        self.assertEqual(run_of(rounds[0], [])[2], 0)
        self.assertLess(time.perf_counter() - begun, 60)


if __name__ == "__main__":
    unittest.main()
