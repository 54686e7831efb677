"""[2] to [4], [23], [24]: papers of steps, whether they are let by, and papers of steps found."""

import copy
import random
import time
import unittest

from helper import A, B, BAD, BELOW, C, END, GOOD, LONG, NO, NO_PAIRS, NOUGHT, ONE, PLAIN, SAME, SHORT, TWO, YES, \
    all_worths, begins, entry_counting, known_of, like_program, line, mine, more, reckoned, shows_as_told, \
    some_condition, some_pair, some_sum, stepped, turned_about, walk_as_told, yours
from twinwalk.errors import NoPair, TooMany
from twinwalk.findings import likeness
from twinwalk.papers import paper_shows
from twinwalk.paying import steps_shown, steps_told
from twinwalk.programs import program_of
from twinwalk.runs import every_input, run_of

GAINS = {"mine": 1, "yours": -1, "both": 0}
EARLY = program_of([], [], [("test", YES, 1, 0), ("say", ONE, 2), END])
LATE = program_of([], [], [("say", ONE, 1), ("test", NO, 0, 2), END])
# The credit grows behind mine's step, stays behind the say, and is spent by yours' step.
PAID = [(0, 0, YES, "mine", ONE, NOUGHT), (1, 0, YES, "both", NOUGHT, ONE), (2, 1, YES, "yours", ONE, ONE),
        (2, 2, YES, "end", NOUGHT, NOUGHT)]


def number(told):
    return ("number", told)


def times(told, many):
    """A sum so many times over."""
    whole = told
    for again in range(many - 1):
        whole = ("plus", whole, told)
    return whole


def steps_as_told(one, other, paper):
    """[23] word by word, of a paper whose places, boxes and who are good ones."""
    plain = [entry[:5] for entry in paper]
    if not shows_as_told(one, other, plain):
        return False
    for inputs in every_input(one):
        first, second = begins(one, inputs), begins(other, inputs)
        at = entry_counting(one, other, plain, 0, 0, first, second)
        if reckoned(paper[at][5], known_of(one, other, first, second)) > 0:
            return False
    for at, (p, q, condition, who, wait, credit) in enumerate(paper):
        for first in all_worths(one):
            for second in all_worths(other):
                if entry_counting(one, other, plain, p, q, first, second) == at:
                    here = reckoned(credit, known_of(one, other, first, second))
                    if here < 0:
                        return False
                    if who != "end":
                        behind = stepped(one, other, who, p, q, first, second)
                        there = paper[entry_counting(one, other, plain, *behind)][5]
                        if reckoned(there, known_of(one, other, behind[2], behind[3])) > here + GAINS[who]:
                            return False
    return True


def more_as_told(one, other, inputs):
    """Whether a walk has at some time more steps of yours than of mine, gone on far enough where it comes round."""
    parted, met = walk_as_told(one, other, inputs)
    at, ahead = (0, 0, begins(one, inputs), begins(other, inputs)), 0
    turns = {repr(place): turn for place, turn in met}
    for step in range((len(met) + 2) ** 2):
        turn = turns[repr(at)]
        if turn == "end":
            return False
        ahead += GAINS[turn]
        if ahead < 0:
            return True
        at = stepped(one, other, turn, *at)
    return False


class Shown(unittest.TestCase):
    def shows(self, paper, due, one=EARLY, other=LATE):
        self.assertIs(steps_shown(one, other, paper), due)

    def with_credit(self, at, credit, paper=tuple(PAID)):
        return list(paper[:at]) + [paper[at][:5] + (credit,)] + list(paper[at + 1:])

    def test_a_good_paper_of_each_who(self):
        self.shows(PAID, True)
        self.shows(PAID[::-1], True)
        self.assertEqual(sorted(entry[3] for entry in PAID), ["both", "end", "mine", "yours"])

    def test_credits_that_are_too_great_by_one(self):
        for at, credit in ((1, TWO), (2, TWO), (3, ONE)):
            self.shows(self.with_credit(at, credit), False)

    def test_a_credit_above_nought_at_a_beginning(self):
        self.shows(self.with_credit(0, ONE), False)
        boxes = [("a", 3)]
        one = program_of(boxes, ["a"], EARLY[2])
        for held, due in ((0, False), (1, False), (2, False), (3, True)):
            ahead = (0, 0, ("same", mine("a"), number(held)), "mine", ONE, ONE)
            self.shows([ahead] + PAID, due, one, program_of(boxes, ["a"], LATE[2]))
            self.shows([ahead] + PAID, due or held > 0, program_of(boxes, [], EARLY[2]), LATE)

    def test_too_little_credit_where_yours_steps(self):
        self.shows(self.with_credit(2, NOUGHT), False)
        self.shows(self.with_credit(1, NOUGHT), False)

    def test_credits_below_nought(self):
        for at in range(4):
            self.shows(self.with_credit(at, BELOW), False)
        self.shows(self.with_credit(3, ("less", ONE, ONE)), True)
        idle = program_of([], [], [("test", YES, 0, 0)])
        self.shows([(0, 0, YES, "both", NOUGHT, NOUGHT)], True, idle, idle)
        self.shows([(0, 0, YES, "both", NOUGHT, BELOW)], False, idle, idle)

    def test_credit_may_be_thrown_away(self):
        one, other = LONG, SHORT
        paper = [entry + (NOUGHT,) for entry in turned_about(GOOD)]
        self.shows(paper, True, one, other)
        self.shows(self.with_credit(1, ONE, paper), True, one, other)
        self.shows(self.with_credit(1, TWO, paper), False, one, other)
        self.shows(self.with_credit(4, ONE, paper), True, one, other)
        self.shows(self.with_credit(4, TWO, paper), False, one, other)
        self.shows([entry + (NOUGHT,) for entry in GOOD], False, SHORT, LONG)

    def test_each_reason_of_a_plain_paper(self):
        for paper in BAD:
            with self.subTest(paper=paper):
                bad = [entry + (NOUGHT,) for entry in turned_about(paper)]
                self.shows(bad, False, LONG, SHORT)
        self.shows([], False)

    def test_a_credit_that_names_no_box(self):
        one, other = program_of([("a", 2)], [], EARLY[2]), program_of([("b", 2)], [], LATE[2])
        self.shows(PAID, True, one, other)
        for ghost in (mine("b"), yours("a"), mine("ghost"), yours("ghost"), ("box", "a"), ("plus", ONE, mine("b")),
                      ("less", ("plus", yours("b"), yours("a")), ONE)):
            for condition in (YES, NO):
                for at in (0, 2, 4):
                    wrong = (2, 2, condition, "end", NOUGHT, ghost)
                    self.shows(PAID[:at] + [wrong] + PAID[at:], False, one, other)
            self.shows(PAID + [(1, 0, ("same", mine("a"), TWO), "both", NOUGHT, ghost)], False, one, other)
        self.shows([(2, 2, YES, "end", NOUGHT, mine("a"))] + PAID, False, one, other)
        self.shows(PAID + [(2, 2, YES, "end", NOUGHT, mine("a"))], True, one, other)

    def test_good_entries_that_never_count(self):
        for p in range(3):
            for q in range(3):
                for who in ("mine", "yours", "both", "end"):
                    for credit in (BELOW, number(99), NOUGHT):
                        self.shows([(p, q, NO, who, BELOW, credit)] + PAID, True)
                        self.shows(PAID + [(p, q, NO, who, BELOW, credit)], True)
        self.shows(PAID + [(0, 0, YES, "mine", ONE, number(9))], True)

    def test_the_credit_behind_is_that_of_the_entry_that_counts_there(self):
        one, other = program_of([("a", 3)], ["a"], EARLY[2]), program_of([("a", 3)], ["a"], LATE[2])
        for held, due in ((("same", yours("a"), TWO), False), (("under", yours("a"), NOUGHT), True)):
            self.shows(PAID[:2] + [(2, 1, held, "yours", ONE, TWO)] + PAID[2:], due, one, other)
            self.shows(PAID + [(2, 1, held, "yours", ONE, TWO)], True, one, other)

    def test_credits_by_boxes_of_both(self):
        one = program_of([("a", 4)], ["a"], [("test", ("same", A, NOUGHT), 3, 1), ("put", "a", ("less", A, ONE), 2),
                                             ("test", YES, 0, 0), ("say", ONE, 4), END])
        other = program_of([("a", 4)], ["a"], [("say", ONE, 1), ("test", ("same", A, NOUGHT), 3, 2),
                                               ("put", "a", ("less", A, ONE), 1), END])
        spared, left = times(("less", yours("a"), mine("a")), 3), times(yours("a"), 2)
        least = ("not", ("under", yours("a"), mine("a")))
        paper = [(0, 0, least, "mine", ("plus", times(mine("a"), 3), ONE), spared),
                 (1, 0, ("both", least, ("under", NOUGHT, mine("a"))), "mine", times(mine("a"), 3), ("plus", spared, ONE)),
                 (2, 0, ("under", mine("a"), yours("a")), "mine", ("plus", times(mine("a"), 3), TWO),
                  ("less", spared, ONE)),
                 (3, 0, YES, "both", NOUGHT, ("plus", left, ONE)), (4, 1, YES, "yours", ("plus", left, ONE),
                                                                     ("plus", left, ONE)),
                 (4, 2, YES, "yours", left, left), (4, 3, YES, "end", NOUGHT, NOUGHT)]
        self.shows(paper[:5] + [(4, 2, YES, "yours", ("plus", left, number(9)), left)] + paper[6:], False, one, other)
        paper[5] = (4, 2, ("under", NOUGHT, yours("a")), "yours", left, left)
        self.shows(paper, True, one, other)
        self.assertTrue(steps_as_told(one, other, paper))
        for at in range(6):
            self.shows(self.with_credit(at, ("plus", paper[at][5], ONE), paper), False, one, other)
            self.shows(self.with_credit(at, ("less", paper[at][5], ONE), paper), False, one, other)
        self.shows(self.with_credit(0, times(("less", yours("a"), mine("a")), 4), paper), False, one, other)

    def test_no_pair(self):
        for other in NO_PAIRS:
            for paper in ([], PAID, [(9, -1, mine("ghost"), "nobody", yours("ghost"), ("box", "ghost"))]):
                self.assertRaises(NoPair, steps_shown, PLAIN, other, paper)
                self.assertRaises(NoPair, steps_shown, other, PLAIN, paper)

    def test_what_is_handed_in_stays(self):
        one, other, paper = copy.deepcopy((EARLY, LATE, PAID))
        for again in range(2):
            self.shows(paper, True, one, other)
            self.assertEqual((one, other, paper), (EARLY, LATE, PAID))

    def test_by_chance(self):
        dice, found = random.Random(23), []
        while len(found) < 300:
            one, other = some_pair(dice)
            if dice.random() < 0.5:
                one, other = other, one
            told = steps_told(one, other)
            if told[0] != "paper" or len(told[1]) > 20 or len(all_worths(one)) * len(all_worths(other)) > 40:
                continue
            self.assertTrue(steps_as_told(one, other, told[1]))
            for many in range(4):
                paper = some_change(dice, one, other, told[1])
                found.append(steps_shown(one, other, paper))
                self.assertIs(found[-1], steps_as_told(one, other, paper))
        self.assertGreater(min(found.count(True), found.count(False)), 60)


def some_change(dice, one, other, paper):
    """The paper with a credit changed by chance, or an entry put ahead or left out."""
    boxes = [mine(name) for name, size in one[0]] + [yours(name) for name, size in other[0]]
    at, changed = dice.randrange(len(paper)), list(paper)
    entry, kind = paper[at], dice.randrange(5)
    if kind == 0:
        changed[at] = entry[:5] + (some_sum(dice, boxes, 1),)
    elif kind == 1:
        changed[at] = entry[:5] + (("plus", entry[5], ONE),)
    elif kind == 2:
        changed[at] = entry[:5] + (("less", entry[5], ONE),)
    elif kind == 3:
        changed.insert(0, entry[:2] + (some_condition(dice, boxes, 1),) + entry[3:5] + (some_sum(dice, boxes, 1),))
    else:
        del changed[at]
    return changed


class Told(unittest.TestCase):
    def paper(self, one, other):
        told = steps_told(one, other)
        self.assertIs(type(told), tuple)
        self.assertEqual((len(told), told[0]), (2, "paper"))
        self.assertIs(type(told[1]), list)
        self.assertTrue(all(type(entry) is tuple and len(entry) == 6 for entry in told[1]))
        plain = [entry[:5] for entry in told[1]]
        self.assertEqual(("paper", plain), likeness(one, other))
        self.assertIs(paper_shows(one, other, plain), True)
        self.assertIs(steps_shown(one, other, told[1]), True)
        for inputs in every_input(one):
            first, second = run_of(one, inputs), run_of(other, inputs)
            self.assertTrue(first[1] is not None or first[2] >= second[2])
        return told[1]

    def told(self, one, other, *due):
        answer = steps_told(one, other)
        self.assertEqual(answer, due)
        self.assertEqual([type(answer), type(answer[1])], [tuple, list])

    def test_programs_that_end(self):
        self.paper(LONG, SHORT)
        self.paper(SHORT, SHORT)
        self.paper(EARLY, LATE)
        self.told(SHORT, LONG, "more", [0])

    def test_more_though_mine_catches_up_by_the_end(self):
        self.told(LATE, EARLY, "more", [])
        self.assertEqual(run_of(LATE, [])[2], run_of(EARLY, [])[2])

    def test_parted_ahead_of_more(self):
        boxes = [("a", 4), ("b", 2)]
        slow = [("test", ("same", A, number(3)), 1, 2), ("say", B, 3), ("test", YES, 3, 3), ("say", A, 4), END]
        for ahead in ([0, 0], [3, 1]):
            one = program_of(boxes, ["a", "b"], [("say", A, 1), END])
            other = program_of(boxes, ["a", "b"], slow if ahead == [3, 1] else [("say", B, 1), END])
            due = [3, 0] if ahead == [3, 1] else [0, 1]
            self.told(one, other, "parted", due)
            self.told(other, one, "parted", due)

    def test_the_first_inputs_with_more(self):
        boxes = [("a", 4), ("b", 3)]
        for a in range(4):
            for b in range(3):
                held = ("not", ("both", ("not", ("both", ("same", A, number(a)), ("same", B, number(b)))),
                                ("not", ("both", ("same", A, number(3)), ("same", B, TWO)))))
                other = program_of(boxes, ["a", "b"], [("test", held, 1, 2), ("test", YES, 2, 2), ("say", A, 3), END])
                one = program_of(boxes, ["a", "b"], [("test", YES, 1, 1), ("say", A, 2), END])
                self.told(one, other, "more", [a, b])
                self.paper(other, one)
                turned = program_of(boxes, ["b", "a"], other[2])
                self.told(program_of(boxes, ["b", "a"], one[2]), turned, "more", [b, a])

    def rounds(self, ahead, around):
        """So many quiet nodes, then for ever a say and so many quiet nodes."""
        nodes = [("test", YES, at + 1, 0) for at in range(ahead)] + [("say", ONE, ahead + 1)]
        nodes.extend([("test", YES, ahead + at + 2, 0) for at in range(around)])
        return program_of([], [], nodes[:-1] + [nodes[-1][:2] + (ahead,) + nodes[-1][3:]])

    def test_more_only_in_a_later_turn_of_a_round(self):
        for ahead in (0, 1, 3, 9):
            self.told(self.rounds(ahead, 0), self.rounds(0, 1), "more", [])
            self.told(self.rounds(ahead, 2), self.rounds(0, 5), "more", [])

    def test_rounds_in_which_yours_takes_no_more(self):
        for ahead in (0, 1, 3):
            self.paper(self.rounds(ahead, 1), self.rounds(ahead, 1))
            self.paper(self.rounds(ahead, 3), self.rounds(0, 1))
            self.paper(self.rounds(ahead, 1), self.rounds(0, 0))
            self.told(self.rounds(0, 1), self.rounds(ahead + 1, 0), "more", [])

    def test_a_round_whose_debt_is_within(self):
        """In each turn of the round yours goes ahead first, mine behind it."""
        one = program_of([], [], [("test", YES, 1, 1), ("say", ONE, 2), ("say", TWO, 3), ("test", YES, 1, 1)])
        other = program_of([], [], [("say", ONE, 1), ("test", YES, 2, 2), ("say", TWO, 0)])
        paper = self.paper(one, other)
        self.assertEqual([entry[3] for entry in paper], ["mine", "both", "yours", "both", "mine"])
        short = program_of([], [], [("say", ONE, 1), ("say", TWO, 2), ("test", YES, 0, 0)])
        self.told(short, other, "more", [])
        self.told(other, short, "paper", steps_told(other, short)[1])

    def test_both_go_round_saying_nothing(self):
        still = program_of([], [], [("test", YES, 0, 0)])
        slow = program_of([("a", 3)], [], [("put", "a", more("a"), 1), ("test", YES, 0, 0)])
        self.assertEqual([entry[3:] for entry in self.paper(still, slow)], [("both", NOUGHT, NOUGHT)] * 6)
        self.paper(slow, still)

    def test_runs_that_come_together(self):
        nodes = [("test", ("same", A, NOUGHT), 2, 1), ("put", "a", ("less", A, ONE), 0), ("say", A, 3), END]
        slow = nodes[:1] + [("put", "a", ("less", A, ONE), 4)] + nodes[2:] + [("test", YES, 0, 0)]
        one, other = program_of([("a", 5)], ["a"], nodes), program_of([("a", 5)], ["a"], slow)
        self.paper(other, one)
        self.told(one, other, "more", [1])

    def test_by_chance(self):
        dice, found = random.Random(24), {"paper": 0, "parted": 0, "more": 0}
        while min(found.values()) < 60:
            one, other = some_pair(dice)
            if dice.random() < 0.4:
                one, other = like_program(dice, one), like_program(dice, one)
            if dice.random() < 0.5:
                one, other = other, one
            if len(all_worths(one)) * len(all_worths(other)) > 150:
                continue
            parted = [inputs for inputs in every_input(one) if walk_as_told(one, other, inputs)[0]]
            if parted:
                due = ("parted", parted[0])
            else:
                ahead = [inputs for inputs in every_input(one) if more_as_told(one, other, inputs)]
                due = ("more", ahead[0]) if ahead else ("paper",)
            found[due[0]] += 1
            if due[0] == "paper":
                self.paper(one, other)
            else:
                self.told(one, other, *due)

    def test_no_pair(self):
        for other in NO_PAIRS:
            self.assertRaises(NoPair, steps_told, PLAIN, other)
            self.assertRaises(NoPair, steps_told, other, PLAIN)

    def test_lists_are_left_and_told_anew(self):
        for one, other in ((LONG, SHORT), (SHORT, LONG), (SHORT, program_of([("a", 4)], ["a"], [END]))):
            before = copy.deepcopy((one, other))
            told = steps_told(one, other)
            due = copy.deepcopy(told)
            told[1].clear()
            self.assertEqual(steps_told(one, other), due)
            self.assertEqual((one, other), before)


class Bounds(unittest.TestCase):
    def test_two_thousand_entries_and_one_more(self):
        sizes = [("a", 16), ("b", 5)]
        least = program_of(sizes, ["a", "b"], [END])
        most = line(24, sizes, ["a", "b"])
        told = steps_told(most, least)
        self.assertEqual((told[0], len(told[1])), ("paper", 2000))
        self.assertEqual(steps_told(least, most), ("more", [0, 0]))
        # The last inputs alone come by a node more, so that there is just one entry more.
        nodes = [("test", ("both", ("same", A, number(15)), ("same", B, number(4))), 25, 1)]
        nodes.extend([("test", YES, at + 1, 0) for at in range(1, 24)] + [END, ("test", YES, 1, 0)])
        above = program_of(sizes, ["a", "b"], nodes)
        self.assertRaises(TooMany, steps_told, above, least)
        self.assertRaises(TooMany, steps_told, least, above)

    def test_parted_ahead_of_too_many(self):
        sizes, names = [("a", 16), ("b", 16), ("c", 15)], ["a", "b", "c"]
        one = line(9, sizes, names)
        last = ("both", ("same", A, number(15)), ("both", ("same", B, number(15)), ("same", C, number(14))))
        other = program_of(sizes, names, [("test", last, 1, 2), ("say", ONE, 2), END])
        self.assertRaises(TooMany, steps_told, one, one)
        self.assertEqual(steps_told(one, other), ("parted", [15, 15, 14]))
        self.assertEqual(steps_told(other, one), ("parted", [15, 15, 14]))

    def test_three_thousand_entries_at_four_thousand_worths_in_good_time(self):
        many = 38
        nodes = [("put", "a", ("plus", A, B), (at + 1) % many) for at in range(many)]
        program = program_of([("a", 9), ("b", 7)], ["a", "b"], nodes)
        some = ("not", ("both", ("under", ("plus", mine("a"), yours("b")), TWO), ("under", mine("b"), yours("a"))))
        places = [(p, q) for p in range(many) for q in range(many)]
        paper = [(p, q, some, "both", NOUGHT, NOUGHT) for p, q in places]
        paper.extend([(p, q, YES, "both", ONE, ("less", mine("a"), mine("a"))) for p, q in places])
        paper.extend([(0, 0, YES, "end", BELOW, BELOW)] * (3000 - len(paper)))
        begun = time.perf_counter()
        self.assertIs(steps_shown(program, program, paper), True)
        self.assertIs(steps_shown(program, program, paper[:-1] + [(1, 1, SAME, "both", ONE, mine("ghost"))]), False)
        self.assertIs(steps_shown(program, program, [entry[:5] + (ONE,) for entry in paper]), False)
        self.assertLess(time.perf_counter() - begun, 60)

    def test_long_rounds_in_good_time(self):
        one = program_of([("a", 16), ("b", 16)], [], [("put", "a", more("a"), 1), ("test", ("same", A, NOUGHT), 2, 3),
                                                      ("put", "b", more("b"), 3), ("say", ONE, 0)])
        quick = program_of([], [], [("say", ONE, 0)])
        begun = time.perf_counter()
        self.assertEqual((steps_told(one, quick)[0], steps_told(quick, one)), ("paper", ("more", [])))
        self.assertLess(time.perf_counter() - begun, 20)


if __name__ == "__main__":
    unittest.main()
