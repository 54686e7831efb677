"""[2], [3], [13] to [15]: pairs, sums and conditions between, and whether runs part."""

import copy
import random
import time
import unittest

from helper import A, B, C, END, NO_PAIRS, NOUGHT, ONE, PLAIN, TWO, YES, known_of, mine, more, reckoned, \
    some_condition, some_pair, some_sum, walk_as_told, yours
from twinwalk.between import holds_between, runs_part, sum_between
from twinwalk.errors import NoPair, NoProgram, NoWorths
from twinwalk.findings import alike_for, likeness
from twinwalk.papers import entry_worths, paper_shows
from twinwalk.programs import program_of
from twinwalk.runs import every_input

BIG = 10 ** 30 - 1
class Pairs(unittest.TestCase):
    def refused(self, one, other):
        paper = [(0, 0, YES, "end", NOUGHT)]
        ghost = [(7, -1, ("same", mine("ghost"), ONE), "nobody", yours("ghost"))]
        ghost_sum, ghost_held = mine("ghost"), ("same", yours("ghost"), ONE)
        for first, second in (([0] * len(one[0]), [0] * len(other[0])), ([9], []), ([-1, 0], [0, 0]), ([0, 0], [0, 9])):
            for told in (ONE, ghost_sum):
                self.assertRaises(NoPair, sum_between, one, other, first, second, told)
            for told in (YES, ghost_held):
                self.assertRaises(NoPair, holds_between, one, other, first, second, told)
        for inputs in ([], [0], [0, 0], [9, 9], [0, 0, 0], [-1, 0]):
            self.assertRaises(NoPair, runs_part, one, other, inputs)
            self.assertRaises(NoPair, alike_for, one, other, inputs)
        for told in (paper, ghost, []):
            self.assertRaises(NoPair, paper_shows, one, other, told)
        for told in (paper, ghost):
            self.assertRaises(NoPair, entry_worths, one, other, told, 0)
        self.assertRaises(NoPair, likeness, one, other)

    def test_no_pairs(self):
        for other in NO_PAIRS:
            with self.subTest(other=other):
                self.refused(PLAIN, other)
                self.refused(other, PLAIN)

    def test_no_pair_ahead_of_too_many(self):
        boxes = [("a", 16), ("b", 16), ("c", 15)]
        self.assertRaises(NoPair, likeness, program_of(boxes, ["a", "b", "c"], [END]),
                          program_of(boxes, ["a", "c", "b"], [END]))

    def test_no_pair_ahead_of_parted(self):
        self.assertRaises(NoPair, likeness, program_of([("a", 2)], ["a"], [END]),
                          program_of([("a", 3)], ["a"], [("say", A, 0)]))

    def test_pairs_whose_other_boxes_differ(self):
        others = [program_of([("b", 5), ("a", 3)], ["a", "b"], [END]),
                  program_of([("x", 2), ("a", 3), ("yes", 16), ("b", 5)], ["a", "b"], [END]),
                  program_of([("a", 3), ("b", 5), ("c", 4)], ["a", "b"], [("put", "c", ONE, 1), END])]
        for other in others:
            for one, two in ((PLAIN, other), (other, PLAIN)):
                first, second = [0] * len(one[0]), [0] * len(two[0])
                self.assertEqual(sum_between(one, two, first, second, ONE), 1)
                self.assertIs(holds_between(one, two, first, second, YES), True)
                self.assertIs(runs_part(one, two, [2, 4]), False)
                self.assertIsNone(alike_for(one, two, [2, 4]))
                self.assertIs(paper_shows(one, two, []), False)
                self.assertEqual(likeness(one, two)[0], "paper")

    def test_pairs_without_inputs(self):
        one, other = program_of([("a", 3)], [], [END]), program_of([], [], [END])
        self.assertIs(runs_part(one, other, []), False)
        self.assertEqual(sum_between(one, other, [2], [], mine("a")), 2)


ONE_SIDE = program_of([("a", 3), ("b", 5)], ["b"], [END])
OTHER_SIDE = program_of([("c", 4), ("b", 5), ("a", 7)], ["b"], [END])
NO_MINE = ([], [0], [0, 0, 0], [-1, 0], [0, -1], [3, 0], [0, 5], [4, 4], [BIG, 0], [0, -BIG])
NO_YOURS = ([], [0, 0], [0, 0, 0, 0], [-1, 0, 0], [0, 0, -1], [4, 0, 0], [0, 5, 0], [0, 0, 7], [0, 0, 8], [0, 0, BIG])
GHOSTS = (mine("c"), mine("ghost"), yours("ghost"))


def within(told, depth, side):
    for at in range(depth):
        kind = ("plus", "less")[at % 2]
        told = (kind, told, ONE) if side == 0 else (kind, ONE, told)
    return told


def held_within(condition, depth, side):
    for at in range(depth):
        parts = (condition, YES) if side == 0 else (YES, condition)
        condition = ("not", condition) if at % 2 == 0 else ("both",) + parts
    return condition


class SumsBetween(unittest.TestCase):
    def worth(self, told, due, first=(2, 4), second=(3, 1, 6)):
        answer = sum_between(ONE_SIDE, OTHER_SIDE, list(first), list(second), told)
        self.assertEqual(answer, due)
        self.assertIs(type(answer), int)

    def test_boxes_of_the_same_name(self):
        self.worth(mine("a"), 2)
        self.worth(yours("a"), 6)
        self.worth(mine("b"), 4)
        self.worth(yours("b"), 1)
        self.worth(yours("c"), 3)
        self.worth(("less", mine("a"), yours("a")), -4)
        self.worth(("less", yours("a"), mine("a")), 4)
        self.worth(("plus", mine("b"), yours("b")), 5)

    def test_numbers(self):
        self.worth(NOUGHT, 0)
        self.worth(("number", BIG), BIG)
        self.worth(("plus", ("number", BIG), ("number", BIG)), 2 * BIG)
        self.worth(("less", NOUGHT, ("number", BIG)), -BIG)
        self.worth(("less", ("less", NOUGHT, ("number", BIG)), yours("a")), -BIG - 6)
        self.worth(("less", ("less", ONE, TWO), ("less", ONE, TWO)), 0)

    def test_twenty_within_one_another(self):
        self.worth(within(mine("b"), 20, 0), 4)
        self.worth(within(yours("c"), 19, 0), 4)
        self.worth(within(yours("a"), 20, 1), reckoned(within(("number", 6), 20, 1), {}))

    def test_no_boxes(self):
        nothing = program_of([], [], [END])
        self.assertEqual(sum_between(nothing, nothing, [], [], ("plus", ONE, TWO)), 3)
        self.assertRaises(NoProgram, sum_between, nothing, nothing, [], [], mine("a"))

    def test_no_worths_of_mine_and_of_yours(self):
        for told in (ONE,) + GHOSTS:
            for first in NO_MINE:
                for second in ([0, 0, 0],) + NO_YOURS:
                    self.assertRaises(NoWorths, sum_between, ONE_SIDE, OTHER_SIDE, first, second, told)
            for second in NO_YOURS:
                self.assertRaises(NoWorths, sum_between, ONE_SIDE, OTHER_SIDE, [0, 0], second, told)

    def test_worths_of_the_other_program_are_none(self):
        self.assertRaises(NoWorths, sum_between, ONE_SIDE, OTHER_SIDE, [3, 1, 6], [2, 4], ONE)

    def test_boxes_that_are_none(self):
        for ghost in GHOSTS:
            for told in (ghost, ("plus", ghost, ONE), ("plus", ONE, ghost), ("less", ghost, ghost), ("less", ONE, ghost),
                         within(ghost, 19, 0), within(ghost, 20, 1)):
                with self.subTest(told=told):
                    self.assertRaises(NoProgram, sum_between, ONE_SIDE, OTHER_SIDE, [2, 4], [3, 1, 6], told)


class HoldsBetween(unittest.TestCase):
    def holds(self, condition, due, first=(2, 4), second=(3, 1, 6)):
        self.assertIs(holds_between(ONE_SIDE, OTHER_SIDE, list(first), list(second), condition), due)

    def test_each_kind(self):
        self.holds(YES, True)
        self.holds(("not", YES), False)
        self.holds(("same", mine("a"), yours("a")), False)
        self.holds(("same", mine("a"), yours("a")), True, (2, 4), (3, 1, 2))
        self.holds(("under", mine("a"), yours("a")), True)
        self.holds(("under", yours("a"), mine("a")), False)
        self.holds(("under", mine("a"), yours("a")), False, (2, 4), (3, 1, 2))
        self.holds(("not", ("same", mine("a"), yours("a"))), True)
        self.holds(("both", ("under", yours("b"), mine("b")), ("same", yours("c"), ("number", 3))), True)
        self.holds(("both", ("under", mine("b"), yours("b")), YES), False)
        self.holds(("both", YES, ("under", mine("b"), yours("b"))), False)

    def test_below_nought_and_great(self):
        below = ("less", mine("a"), yours("a"))
        self.holds(("under", below, NOUGHT), True)
        self.holds(("under", ("less", NOUGHT, ("number", BIG)), below), True)
        self.holds(("same", below, ("less", yours("b"), ("number", 5))), True)
        self.holds(("under", ("number", BIG - 1), ("number", BIG)), True)
        self.holds(("under", ("number", BIG), ("number", BIG)), False)

    def test_twenty_within_one_another(self):
        leaf = ("under", mine("a"), yours("a"))
        for depth in (18, 19, 20):
            for side in (0, 1):
                told = held_within(leaf, depth, side)
                self.holds(told, reckoned(told, {mine("a"): 2, yours("a"): 6}))

    def test_no_worths_of_mine_and_of_yours(self):
        conditions = [YES] + [("same", ghost, ONE) for ghost in GHOSTS]
        for told in conditions:
            for first in NO_MINE:
                for second in ([0, 0, 0],) + NO_YOURS:
                    self.assertRaises(NoWorths, holds_between, ONE_SIDE, OTHER_SIDE, first, second, told)
            for second in NO_YOURS:
                self.assertRaises(NoWorths, holds_between, ONE_SIDE, OTHER_SIDE, [0, 0], second, told)

    def test_boxes_that_are_none(self):
        never = ("same", ONE, TWO)
        for ghost in GHOSTS:
            for held in (("same", ghost, ONE), ("same", ONE, ghost), ("under", ghost, ghost),
                         ("under", ONE, within(ghost, 17, 1))):
                for told in (held, ("not", held), ("both", YES, held), ("both", held, YES), ("both", never, held),
                             ("both", held, never), ("not", ("both", never, ("both", never, held))),
                             held_within(held, 18, 0), held_within(("both", never, held), 16, 1)):
                    with self.subTest(told=told):
                        self.assertRaises(NoProgram, holds_between, ONE_SIDE, OTHER_SIDE, [2, 4], [3, 1, 6], told)


class NothingIsChanged(unittest.TestCase):
    def test_what_is_handed_in_stays(self):
        one, other, first, second = copy.deepcopy((ONE_SIDE, OTHER_SIDE, [2, 4], [3, 1, 6]))
        for asked in (lambda: sum_between(one, other, first, second, ("plus", mine("a"), yours("c"))),
                      lambda: holds_between(one, other, first, second, ("same", mine("a"), yours("c"))),
                      lambda: runs_part(one, other, [4])):
            answer = asked()
            self.assertEqual((one, other, first, second), (ONE_SIDE, OTHER_SIDE, [2, 4], [3, 1, 6]))
            self.assertEqual(asked(), answer)

    def test_by_chance(self):
        dice = random.Random(14)
        for many in range(400):
            one, other = some_pair(dice)
            first = [dice.randrange(size) for name, size in one[0]]
            second = [dice.randrange(size) for name, size in other[0]]
            known = known_of(one, other, first, second)
            told, held = some_sum(dice, list(known), 4), some_condition(dice, list(known), 4)
            self.assertEqual(sum_between(one, other, first, second, told), reckoned(told, known))
            self.assertIs(holds_between(one, other, first, second, held), reckoned(held, known))


def saying(*numbers, then=END):
    """Says the numbers; then is the last node, which may lead to any."""
    return program_of([], [], [("say", ("number", number), at + 1) for at, number in enumerate(numbers)] + [then])


def going_round(ahead, around):
    """Says the numbers ahead, then those around for ever."""
    nodes = [("say", ("number", number), at + 1) for at, number in enumerate(ahead + around)]
    nodes[-1] = nodes[-1][:2] + (len(ahead),)
    return program_of([], [], nodes)


def counts(boxes, nodes):
    """Nodes that go through all worths of the boxes, with the told ones each time; these lead to len(nodes)."""
    counted = list(nodes)
    for name, size in boxes:
        at = len(counted)
        counted.extend([("put", name, more(name), at + 1), ("test", ("same", ("box", name), NOUGHT), at + 2, 0)])
    return counted


class RunsPart(unittest.TestCase):
    def part(self, one, other, due, inputs=()):
        for first, second in ((one, other), (other, one)):
            self.assertIs(runs_part(first, second, list(inputs)), due)

    def test_they_end(self):
        self.part(saying(), saying(), False)
        self.part(saying(1, 2, 3), saying(1, 2, 3), False)
        self.part(saying(1, 2, 3), saying(1, 2), True)
        self.part(saying(1, 2, 3), saying(1, 2, 4), True)
        self.part(saying(1), saying(), True)
        self.part(saying(1, 2), saying(2, 1), True)
        slow = program_of([("c", 3)], [], [("put", "c", more("c"), 1), ("test", ("same", C, NOUGHT), 2, 0),
                                           ("say", ONE, 3), ("test", YES, 4, 0), ("say", TWO, 5), END])
        self.part(saying(1, 2), slow, False)
        self.part(saying(1, 1), slow, True)

    def test_rounds_of_other_lengths(self):
        self.part(going_round([], [1, 2]), going_round([], [1, 2, 1, 2, 1, 2]), False)
        self.part(going_round([], [1, 2, 1, 2]), going_round([], [1, 2, 1, 2, 1, 2]), False)
        self.part(going_round([], [1]), going_round([], [1, 1, 1]), False)
        self.part(going_round([], [1, 2, 1]), going_round([], [1, 2]), True)
        self.part(going_round([], [1, 2, 1, 2, 1]), going_round([], [1, 2]), True)
        self.part(going_round([], [1, 1, 1, 1, 2]), going_round([], [1]), True)

    def test_rounds_that_begin_elsewhere(self):
        self.part(going_round([1], [2, 1]), going_round([], [1, 2]), False)
        self.part(going_round([1, 2, 1], [2, 1, 2, 1]), going_round([], [1, 2]), False)
        self.part(going_round([1], [2, 1]), going_round([1], [1, 2]), True)
        self.part(going_round([1, 1], [2, 1]), going_round([1], [1, 2]), False)
        self.part(going_round([3], [2, 1]), going_round([], [1, 2]), True)

    def test_rounds_that_are_alike_for_long(self):
        first, second = [1, 2, 1, 1, 2], [1, 2, 1]
        self.part(going_round([], first), going_round([], second), True)
        self.part(going_round([], [1, 2, 1, 1, 2, 1, 1, 2]), going_round([], [1, 2, 1, 1, 2, 1, 1]), True)
        self.part(going_round([7] * 9, [8]), going_round([7] * 10, [8]), True)

    def test_one_ends_and_the_other_does_not(self):
        for numbers in ((), (1,), (1, 2)):
            nodes = [("say", ("number", number), at + 1) for at, number in enumerate(numbers)]
            still = program_of([], [], nodes + [("test", YES, len(numbers), 0)])
            self.part(saying(*numbers), still, True)
            self.part(still, still, False)
            self.part(saying(*numbers), going_round(list(numbers), [1]), True)

    def test_both_go_on_and_say_nothing_more(self):
        nodes = [("say", ONE, 1), ("put", "c", more("c"), 2), ("test", YES, 1, 0)]
        one = program_of([("c", 5)], [], nodes)
        self.part(one, saying(1, then=("test", YES, 1, 1)), False)
        self.part(one, saying(2, then=("test", YES, 1, 1)), True)
        self.part(one, saying(1, 1, then=("test", YES, 2, 2)), True)
        self.part(one, saying(then=("test", YES, 0, 0)), True)
        self.part(one, going_round([1], [1]), True)
        self.part(one, going_round([], [1]), True)

    def test_inputs_at_which_they_part(self):
        one = program_of([("a", 4)], ["a"], [("say", A, 1), END])
        other = program_of([("x", 2), ("a", 4)], ["a"], [("test", ("same", A, TWO), 1, 2), ("put", "a", ONE, 2),
                                                       ("say", A, 3), END])
        for worth in range(4):
            self.part(one, other, worth == 2, [worth])

    def test_inputs_that_are_none(self):
        one = program_of([("a", 3), ("b", 5)], ["b", "a"], [END])
        other = program_of([("b", 5), ("a", 3), ("c", 2)], ["b", "a"], [("say", C, 0)])
        for inputs in ([], [0], [0, 0, 0], [-1, 0], [0, -1], [5, 0], [0, 3], [4, 4], [BIG, 0], [0, -BIG]):
            for first, second in ((one, other), (other, one)):
                self.assertRaises(NoWorths, runs_part, first, second, inputs)
        self.part(one, other, True, [4, 2])

    def test_late_parting_in_good_time(self):
        boxes = [("a", 16), ("b", 16), ("c", 16)]
        one = program_of(boxes, [], counts(boxes, [("say", NOUGHT, 1)]) + [END])
        like = program_of(boxes, [], counts(boxes, [("test", YES, 1, 0), ("say", NOUGHT, 2)]) + [END])
        odd = [("test", ("both", ("same", A, ("number", 15)), ("both", ("same", B, ("number", 15)),
                ("same", C, ("number", 15)))), 1, 2), ("say", ONE, 3), ("say", NOUGHT, 3)]
        late = program_of(boxes, [], counts(boxes, odd) + [END])
        begun = time.perf_counter()
        self.part(one, like, False)
        self.part(one, late, True)
        self.assertLess(time.perf_counter() - begun, 10)

    def test_long_rounds_of_other_lengths_in_good_time(self):
        boxes, fewer = [("a", 16), ("b", 16), ("c", 16)], [("a", 15), ("b", 16), ("c", 13)]
        rounds = [program_of(sizes, [], counts(sizes, [("say", NOUGHT, 1)]) + [("test", YES, 0, 0)])
                  for sizes in (boxes, fewer)]
        begun = time.perf_counter()
        self.part(rounds[0], rounds[1], False)
        self.assertLess(time.perf_counter() - begun, 10)

    def test_by_chance(self):
        dice, found = random.Random(15), {True: 0, False: 0}
        for many in range(400):
            one, other = some_pair(dice)
            for inputs in every_input(one)[:4]:
                parted, met = walk_as_told(one, other, inputs)
                found[parted] += 1
                self.part(one, other, parted, inputs)
        self.assertGreater(min(found.values()), 100)


if __name__ == "__main__":
    unittest.main()
