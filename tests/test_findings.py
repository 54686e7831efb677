"""[1], [2], [4], [20] to [22]: papers of likeness, parted inputs, and how far runs are alike."""

import copy
import random
import time
import unittest

from helper import A, B, C, END, NO, NOUGHT, ONE, TWO, YES, all_worths, known_of, line, more, reckoned, some_pair, \
    stepped, turn_as_told, walk_as_told
from twinwalk.between import runs_part
from twinwalk.errors import NoPair, NoWorths, TooMany
from twinwalk.findings import alike_for, likeness
from twinwalk.papers import entry_worths, paper_shows
from twinwalk.programs import program_of
from twinwalk.runs import every_input, said_in


def entries_due(one, other):
    """Of a pair that doesn't part: (p, q, mine, yours), who and wait, sorted, as [20] and [21] tell."""
    found = {}
    for inputs in every_input(one):
        parted, met = walk_as_told(one, other, inputs)
        for at, turn in met:
            alone, behind = 0, at
            while turn_as_told(one, other, *behind) in ("mine", "yours"):
                behind = stepped(one, other, turn_as_told(one, other, *behind), *behind)
                alone += 1
            found[(at[0], at[1], tuple(at[2]), tuple(at[3]))] = (turn, ("number", alone))
    return sorted(found.items())


class Likeness(unittest.TestCase):
    def paper(self, one, other):
        """The told paper, looked through."""
        told = likeness(one, other)
        self.assertIs(type(told), tuple)
        self.assertEqual((len(told), told[0]), (2, "paper"))
        paper = told[1]
        self.assertIs(type(paper), list)
        self.assertTrue(all(type(entry) is tuple and len(entry) == 5 for entry in paper))
        self.assertIs(paper_shows(one, other, paper), True)
        due = entries_due(one, other)
        self.assertEqual([(p, q, who, wait) for p, q, condition, who, wait in paper],
                         [(at[0], at[1]) + turn for at, turn in due])
        for entry, ((p, q, first, second), turn) in zip(paper, due):
            self.holds_there_alone(one, other, entry[2], (list(first), list(second)))
        return paper

    def holds_there_alone(self, one, other, condition, place):
        held = [(first, second) for first in all_worths(one) for second in all_worths(other)
                if reckoned(condition, known_of(one, other, first, second))]
        self.assertEqual(held, [place])

    def parted(self, one, other, inputs):
        for first, second in ((one, other), (other, one)):
            told = likeness(first, second)
            self.assertEqual(told, ("parted", inputs))
            self.assertIs(type(told), tuple)
            self.assertIs(type(told[1]), list)

    def test_programs_that_end(self):
        one = program_of([("a", 2)], ["a"], [("put", "a", more("a"), 1), ("say", A, 2), END])
        other = program_of([("t", 2), ("a", 2)], ["a"], [("put", "t", A, 1), ("test", YES, 2, 0),
                                                         ("put", "a", ("plus", ("box", "t"), ONE), 3), ("say", A, 4),
                                                         ("test", NO, 0, 5), END])
        paper = self.paper(one, other)
        self.assertEqual([(p, q, who, wait[1]) for p, q, condition, who, wait in paper],
                         [(0, 0, "both", 0), (0, 0, "both", 0), (1, 1, "yours", 2), (1, 1, "yours", 2),
                          (1, 2, "yours", 1), (1, 2, "yours", 1), (1, 3, "both", 0), (1, 3, "both", 0),
                          (2, 4, "yours", 1), (2, 4, "yours", 1), (2, 5, "end", 0), (2, 5, "end", 0)])
        self.assertEqual(entry_worths(one, other, paper, 3), [([1], [0, 0])])
        back = self.paper(other, one)
        self.assertEqual([who for p, q, condition, who, wait in back].count("mine"), 6)

    def test_the_order_of_the_entries(self):
        one = program_of([("b", 2), ("a", 2)], ["a", "b"], [END])
        other = program_of([("a", 2), ("b", 2)], ["a", "b"], [END])
        paper = self.paper(one, other)
        self.assertEqual([entry_worths(one, other, paper, number) for number in range(4)],
                         [[([b, a], [a, b])] for b in range(2) for a in range(2)])

    def test_no_boxes(self):
        nothing = program_of([], [], [END])
        self.assertEqual(len(self.paper(nothing, nothing)), 1)
        saying = program_of([], [], [("say", ONE, 1), ("say", TWO, 0)])
        self.assertEqual([entry[3:] for entry in self.paper(saying, saying)], [("both", NOUGHT)] * 2)

    def test_both_go_on_for_ever(self):
        quiet = program_of([], [], [("test", YES, 0, 0)])
        slow = program_of([("a", 3)], [], [("put", "a", more("a"), 0)])
        self.assertEqual([entry[3:] for entry in self.paper(quiet, slow)], [("both", NOUGHT)] * 3)
        saying = program_of([], [], [("say", NOUGHT, 0)])
        late = program_of([("a", 3)], [], [("say", NOUGHT, 1), ("put", "a", more("a"), 2), ("test", YES, 0, 0)])
        self.assertEqual([(entry[1],) + entry[3:] for entry in self.paper(saying, late)],
                         [(0, "both", NOUGHT)] * 3 + [(1, "yours", TWO)] * 3 + [(2, "yours", ONE)] * 3)
        self.paper(late, saying)

    def test_a_round_that_begins_within_steps_alone(self):
        nodes = [("put", "a", more("a"), 1), ("test", YES, 2, 0), ("say", ONE, 1)]
        one = program_of([("a", 3)], [], nodes)
        paper = self.paper(program_of([], [], [("say", ONE, 0)]), one)
        self.assertEqual([entry[1:2] + entry[3:] for entry in paper],
                         [(0, "yours", TWO), (1, "yours", ONE), (2, "both", NOUGHT)])

    def test_rounds_of_other_lengths(self):
        two = program_of([], [], [("say", ONE, 1), ("say", ONE, 0)])
        three = program_of([], [], [("say", ONE, 1), ("say", ONE, 2), ("say", ONE, 0)])
        self.assertEqual(len(self.paper(two, three)), 6)

    def test_numbers_said_unlike(self):
        one = program_of([("a", 4)], ["a"], [("say", A, 1), END])
        other = program_of([("a", 4)], ["a"], [("test", ("under", A, TWO), 2, 1), ("put", "a", ONE, 2), ("say", A, 3),
                                               END])
        self.parted(one, other, [2])
        below = program_of([("a", 4)], ["a"], [("say", ("less", A, ("plus", A, A)), 1), END])
        self.parted(one, below, [1])

    def test_the_first_inputs_in_order(self):
        boxes = [("a", 3), ("b", 3)]
        unlike = ("not", ("both", ("not", ("both", ("same", A, ONE), ("same", B, TWO))),
                          ("not", ("both", ("same", A, TWO), ("same", B, ONE)))))
        one = program_of(boxes, ["a", "b"], [("test", unlike, 1, 2), ("say", ONE, 2), END])
        self.parted(one, program_of(boxes, ["a", "b"], [END]), [1, 2])
        turned = program_of(boxes, ["b", "a"], one[2])
        self.parted(turned, program_of(boxes, ["b", "a"], [END]), [1, 2])
        self.parted(program_of([], [], [("say", ONE, 0)]), program_of([], [], [END]), [])

    def test_one_says_more(self):
        one = program_of([("a", 3)], ["a"], [("say", A, 1), END])
        other = program_of([("a", 3)], ["a"], [("say", A, 1), ("test", ("same", A, TWO), 2, 3), ("say", A, 3), END])
        self.parted(one, other, [2])

    def test_one_goes_round_silently(self):
        for last in (("say", ONE, 1), END):
            one = program_of([("a", 3)], ["a"], [("say", A, 1), last])
            other = program_of([("a", 3)], ["a"], [("say", A, 1), ("test", ("same", A, ONE), 2, 3),
                                                   ("put", "a", A, 1), last[:2] + (3,) if last != END else END])
            self.parted(one, other, [1])
        still = program_of([("a", 3)], [], [("put", "a", more("a"), 0)])
        self.parted(still, program_of([], [], [END]), [])
        self.parted(still, program_of([], [], [("say", ONE, 0)]), [])

    def test_a_say_and_an_end(self):
        self.parted(program_of([], [], [("say", ONE, 1), END]), program_of([], [], [END]), [])

    def test_one_falls_silent_and_the_other_goes_on_saying(self):
        one = program_of([("a", 2)], ["a"], [("say", ONE, 0)])
        other = program_of([("a", 2)], ["a"], [("say", ONE, 1), ("test", ("same", A, NOUGHT), 0, 2), ("test", YES, 2, 2)])
        self.parted(one, other, [1])

    def test_inputs_whose_runs_come_together(self):
        nodes = [("test", ("same", A, NOUGHT), 3, 1), ("put", "a", ("less", A, ONE), 2), ("say", A, 0), END]
        one = program_of([("a", 6)], ["a"], nodes)
        other = program_of([("a", 6)], ["a"], nodes[:2] + [("say", ("plus", A, NOUGHT), 0), END])
        self.paper(one, other)
        late = program_of([("a", 6)], ["a"], [("test", ("same", A, ("number", 5)), 4, 5)] + nodes[1:] +
                          [("say", A, 0), nodes[0]])
        self.parted(one, late, [5])

    def test_by_chance(self):
        dice, found = random.Random(21), {"paper": 0, "parted": 0}
        while min(found.values()) < 150:
            one, other = some_pair(dice)
            if len(all_worths(one)) * len(all_worths(other)) > 150:
                continue
            parted = [inputs for inputs in every_input(one) if walk_as_told(one, other, inputs)[0]]
            found["parted" if parted else "paper"] += 1
            if parted:
                self.parted(one, other, parted[0])
            else:
                self.paper(one, other)
                for inputs in every_input(one):
                    self.assertIs(runs_part(one, other, inputs), False)

    def test_lists_are_left_and_told_anew(self):
        one = program_of([("a", 3)], ["a"], [("say", A, 1), END])
        other = program_of([("a", 3), ("c", 2)], ["a"], [("put", "c", ONE, 1), ("say", A, 2), END])
        third = program_of([("a", 3)], ["a"], [("say", ONE, 1), END])
        before = copy.deepcopy((one, other, third))
        for second in (other, third):
            told = likeness(one, second)
            due = copy.deepcopy(told)
            self.assertEqual((one, other, third), before)
            told[1].clear()
            self.assertEqual(likeness(one, second), due)
            self.assertEqual((one, other, third), before)
        told = likeness(one, other)
        other[2][1] = ("say", ONE, 2)
        self.assertEqual(told, likeness(one, before[1]))


class TooManyEntries(unittest.TestCase):
    def test_two_thousand_and_one_more(self):
        sizes = [("a", 16), ("b", 5)]
        least = program_of(sizes, ["a", "b"], [END])
        told = likeness(line(24, sizes, ["a", "b"]), least)
        self.assertEqual((told[0], len(told[1])), ("paper", 2000))
        self.assertIs(type(told[1]), list)
        # The last inputs alone come by a node more, so that there is just one entry more.
        nodes = [("test", ("both", ("same", A, ("number", 15)), ("same", B, ("number", 4))), 25, 1)]
        nodes.extend([("test", YES, at + 1, 0) for at in range(1, 24)] + [END, ("test", YES, 1, 0)])
        self.assertRaises(TooMany, likeness, program_of(sizes, ["a", "b"], nodes), least)
        self.assertRaises(TooMany, likeness, least, program_of(sizes, ["a", "b"], nodes))

    def test_parted_ahead_of_too_many(self):
        sizes = [("a", 16), ("b", 16), ("c", 15)]
        names = ["a", "b", "c"]
        one = line(9, sizes, names)
        last = ("both", ("same", A, ("number", 15)), ("both", ("same", B, ("number", 15)), ("same", C, ("number", 14))))
        nodes = [("test", last, 1, 2), ("say", ONE, 2), END]
        self.assertRaises(TooMany, likeness, one, one)
        self.assertEqual(likeness(one, program_of(sizes, names, nodes)), ("parted", [15, 15, 14]))
        self.assertEqual(likeness(program_of(sizes, names, nodes), one), ("parted", [15, 15, 14]))
        self.assertRaises(TooMany, likeness, one, program_of(sizes, names, nodes[:1] + [END, END]))

    def test_long_runs_in_good_time(self):
        sizes = [("a", 16), ("b", 16), ("c", 15), ("d", 16)]
        names = ["a", "b", "c"]
        nodes = []
        for at, name in enumerate(["d", "a", "b"]):
            nodes.extend([("put", name, more(name), 2 * at + 1),
                          ("test", ("same", ("box", name), NOUGHT), 2 * at + 2, 0)])
        one = program_of(sizes, names, nodes + [("say", C, 7), END])
        other = program_of(sizes, names, nodes + [("say", ("plus", C, NOUGHT), 7), END])
        odd = program_of(sizes, names, nodes + [("test", ("under", C, ("number", 14)), 7, 8), ("say", C, 9),
                                                ("say", NOUGHT, 9), END])
        begun = time.perf_counter()
        self.assertRaises(TooMany, likeness, one, other)
        self.assertEqual(likeness(one, odd), ("parted", [0, 0, 14]))
        self.assertLess(time.perf_counter() - begun, 60)

    def test_rounds_of_other_lengths_in_good_time(self):
        rounds = []
        for sizes in ([("a", 16), ("b", 16), ("c", 16)], [("a", 15), ("b", 16), ("c", 13)]):
            nodes = [("say", NOUGHT, 1)]
            for at, (name, size) in enumerate(sizes):
                nodes.extend([("put", name, more(name), 2 * at + 2),
                              ("test", ("same", ("box", name), NOUGHT), 2 * at + 3, 0)])
            for last in (("test", YES, 0, 0), ("say", ONE, 0)):
                rounds.append(program_of(sizes, [], nodes + [last]))
        begun = time.perf_counter()
        self.assertRaises(TooMany, likeness, rounds[0], rounds[2])
        self.assertEqual(likeness(rounds[0], rounds[1]), ("parted", []))
        self.assertEqual(likeness(rounds[1], rounds[3]), ("parted", []))
        self.assertEqual(alike_for(rounds[0], rounds[1], []), 16 ** 3)
        self.assertEqual(alike_for(rounds[1], rounds[3], []), 15 * 16 * 13)
        self.assertLess(time.perf_counter() - begun, 60)

    def test_two_thousand_entries_are_let_by_in_good_time(self):
        boxes = [("a", 9), ("b", 7)]
        nodes = [("put", "a", more("a"), at + 1) for at in range(29)] + [("say", A, 30), END]
        program = program_of(boxes, ["a", "b"], nodes)
        begun = time.perf_counter()
        told = likeness(program, program)
        self.assertEqual((told[0], len(told[1])), ("paper", 31 * 63))
        self.assertIs(paper_shows(program, program, told[1]), True)
        self.assertIs(paper_shows(program, program, told[1][1:]), False)
        self.assertIs(paper_shows(program, program, told[1][:-1]), False)
        self.assertLess(time.perf_counter() - begun, 60)


class AlikeFor(unittest.TestCase):
    def alike(self, one, other, due, inputs=()):
        for first, second in ((one, other), (other, one)):
            answer = alike_for(first, second, list(inputs))
            self.assertEqual(answer, due)
            self.assertIs(type(answer), type(due))

    def saying(self, numbers, *last):
        nodes = [("say", ("number", number), at + 1) for at, number in enumerate(numbers)]
        return program_of([], [], nodes + list(last))

    def test_they_do_not_part(self):
        self.alike(self.saying([], END), self.saying([], END), None)
        self.alike(self.saying([1, 2], END), self.saying([1, 2], END), None)
        self.alike(self.saying([1], ("say", ONE, 0)), self.saying([], ("say", ONE, 0)), None)
        still = self.saying([1], ("test", YES, 1, 1))
        self.alike(still, still, None)

    def test_numbers_unlike(self):
        for at in range(4):
            numbers = [5, 6, 7, 8]
            changed = numbers[:at] + [9] + numbers[at + 1:]
            self.alike(self.saying(numbers, END), self.saying(changed, END), at)
        self.alike(self.saying([1, 2, 1], ("say", TWO, 0)), self.saying([1, 2], ("say", ONE, 0)), 3)

    def test_one_ends(self):
        self.alike(self.saying([], END), self.saying([1], END), 0)
        self.alike(self.saying([1, 2], END), self.saying([1, 2, 3], END), 2)
        self.alike(self.saying([1, 1, 1], END), self.saying([], ("say", ONE, 0)), 3)
        self.alike(self.saying([], END), self.saying([], ("test", YES, 0, 0)), 0)
        self.alike(self.saying([4, 4], END), self.saying([4, 4], ("test", YES, 2, 0)), 2)

    def test_one_falls_silent(self):
        self.alike(self.saying([1, 1], ("test", YES, 2, 0)), self.saying([], ("say", ONE, 0)), 2)
        self.alike(self.saying([1], ("test", YES, 1, 0)), self.saying([1, 2], END), 1)
        self.alike(self.saying([1], ("test", YES, 1, 0)), self.saying([], ("test", YES, 0, 0)), 0)

    def test_by_inputs(self):
        one = program_of([("a", 4), ("n", 4)], ["a"], [("test", ("same", A, ("box", "n")), 3, 1), ("say", ONE, 2),
                                                       ("put", "n", more("n"), 0), END])
        other = program_of([("a", 4)], ["a"], [("say", ONE, 1), ("say", ONE, 2), END])
        for inputs, due in (([0], 0), ([1], 1), ([2], None), ([3], 2)):
            self.alike(one, other, due, inputs)

    def test_inputs_that_are_none(self):
        one = program_of([("a", 3), ("b", 5)], ["b", "a"], [END])
        other = program_of([("b", 5), ("a", 3), ("c", 2)], ["b", "a"], [("say", C, 0)])
        for inputs in ([], [0], [0, 0, 0], [-1, 0], [0, -1], [5, 0], [0, 3], [4, 4], [10 ** 30, 0], [0, -10 ** 30]):
            for first, second in ((one, other), (other, one), (one, one)):
                self.assertRaises(NoWorths, alike_for, first, second, inputs)
        self.alike(one, other, 0, [4, 2])
        self.assertRaises(NoPair, alike_for, one, program_of([("a", 3), ("b", 5)], ["a", "b"], [END]), [9, 9])

    def test_by_chance(self):
        dice, found = random.Random(22), {True: 0, False: 0}
        for many in range(300):
            one, other = some_pair(dice)
            for inputs in every_input(one)[:4]:
                told = alike_for(one, other, inputs)
                found[told is None] += 1
                self.assertIs(told is not None, runs_part(one, other, inputs))
                if told is not None:
                    first, second = said_in(one, inputs, 3000), said_in(other, inputs, 3000)
                    self.assertEqual(first[:told], second[:told])
                    self.assertNotEqual(first[told:told + 1] or None, second[told:told + 1])
        self.assertGreater(min(found.values()), 100)

    def test_what_is_handed_in_stays(self):
        one, other, inputs = self.saying([1, 2], END), self.saying([1, 3], END), []
        before = copy.deepcopy((one, other, inputs))
        self.assertEqual([alike_for(one, other, inputs), alike_for(one, other, inputs)], [1, 1])
        self.assertEqual((one, other, inputs), before)


if __name__ == "__main__":
    unittest.main()
