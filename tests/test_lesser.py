"""[2], [3], [30] to [32]: papers made lesser, entries come to, and papers kept to them."""

import copy
import random
import time
import unittest

from helper import A, B, BAD, BELOW, END, GOOD, KEPT, LONG, NO, NO_PAIRS, NOUGHT, ONE, PLAIN, SAME, SHORT, TWO, YES, \
    all_worths, begins, entry_counting, mine, more, some_change, some_pair, some_paper, stepped, turned_about, \
    well_as_told, yours
from twinwalk.errors import NoPair, NoPaper
from twinwalk.findings import likeness
from twinwalk.lesser import entries_come_to, kept_paper, lesser_paper
from twinwalk.papers import entry_worths, paper_shows
from twinwalk.programs import program_of
from twinwalk.runs import every_input

ENDED = program_of([("a", 3)], ["a"], [END])
WIDE = program_of([("b", 2), ("a", 3), ("c", 4)], ["a"], [END])


def look(entry):
    """What alike entries have in common."""
    return (entry[0], entry[1], entry[3], entry[4])


def each_once(things):
    return [thing for at, thing in enumerate(things) if thing not in things[:at]]


def a_is(number):
    return ("same", mine("a"), ("number", number))


def counted(one, other, paper):
    """By all places and worths what the entry looks like that counts there."""
    found = {}
    for p, q in each_once([entry[:2] for entry in paper]):
        for first in all_worths(one):
            for second in all_worths(other):
                number = entry_counting(one, other, paper, p, q, first, second)
                found[(p, q, tuple(first), tuple(second))] = None if number is None else look(paper[number])
    return found


def come_as_told(one, other, paper):
    """[31] word by word: by the numbers of entries all worths at which one comes to them."""
    found, met = {}, []
    for inputs in every_input(one):
        at = (0, 0, begins(one, inputs), begins(other, inputs))
        while at is not None and at not in met:
            met.append(at)
            number = entry_counting(one, other, paper, *at)
            if number is None:
                break
            found.setdefault(number, []).append((at[2], at[3]))
            goes_on = paper[number][3] != "end" and well_as_told(one, other, paper, paper[number], at[2], at[3])
            at = stepped(one, other, paper[number][3], *at) if goes_on else None
    return {number: sorted(worths) for number, worths in found.items()}


class Case(unittest.TestCase):
    def is_paper(self, paper):
        self.assertIs(type(paper), list)
        for entry in paper:
            self.assertEqual((type(entry), len(entry)), (tuple, 5))
            self.assertTrue(all(type(entry[at]) is tuple for at in (2, 4)))


class Lesser(Case):
    def lesser(self, one, other, paper):
        before = copy.deepcopy((one, other, paper))
        told = lesser_paper(one, other, paper)
        self.assertEqual((one, other, paper), before)
        self.is_paper(told)
        self.assertEqual([look(entry) for entry in told], each_once([look(entry) for entry in paper]))
        self.assertEqual(counted(one, other, told), counted(one, other, paper))
        self.assertIs(paper_shows(one, other, told), paper_shows(one, other, paper))
        return told

    def test_an_empty_paper(self):
        self.assertEqual(self.lesser(SHORT, LONG, []), [])
        nothing = program_of([], [], [END])
        self.assertEqual(self.lesser(nothing, nothing, []), [])

    def test_nothing_is_alike(self):
        self.assertEqual(len(self.lesser(SHORT, LONG, GOOD)), 5)

    def test_alike_entries_side_by_side(self):
        paper = [(0, 0, a_is(number), "end", NOUGHT) for number in (2, 0, 1)]
        self.assertEqual(len(self.lesser(ENDED, ENDED, paper)), 1)
        self.assertEqual(len(self.lesser(ENDED, WIDE, paper[:2])), 1)
        self.assertEqual(len(self.lesser(WIDE, ENDED, paper[1:])), 1)

    def test_alike_entries_far_from_one_another(self):
        paper = [(0, 0, ("both", SAME, a_is(0)), "yours", ONE)] + GOOD[1:] + [(0, 0, SAME, "yours", ONE)]
        self.assertEqual([entry[:2] for entry in self.lesser(SHORT, LONG, paper)],
                         [(0, 0), (0, 1), (1, 2), (2, 3), (2, 4)])
        late = GOOD[1:3] + paper
        self.assertEqual([entry[:2] for entry in self.lesser(SHORT, LONG, late)],
                         [(0, 1), (1, 2), (0, 0), (2, 3), (2, 4)])

    def test_others_between_keep_what_they_counted(self):
        between = ("under", mine("a"), yours("a"))
        for who, wait in (("both", NOUGHT), ("mine", NOUGHT), ("end", ONE), ("end", ("plus", NOUGHT, NOUGHT)),
                          ("end", ("less", ONE, ONE)), ("end", mine("a")), ("end", yours("a"))):
            paper = [(0, 0, a_is(0), "end", NOUGHT), (0, 0, between, who, wait), (0, 0, YES, "end", NOUGHT)]
            told = self.lesser(ENDED, WIDE, paper)
            self.assertEqual(len(told), 2)
            self.assertEqual(len(self.lesser(ENDED, WIDE, paper + paper[::-1])), 2)
            self.assertEqual(len(self.lesser(ENDED, WIDE, paper[1:] + paper[:1])), 2)

    def test_others_ahead_keep_what_they_counted(self):
        paper = [(0, 0, a_is(1), "mine", NOUGHT), (0, 0, YES, "end", ONE), (0, 0, NO, "end", NOUGHT),
                 (0, 0, YES, "end", NOUGHT), (0, 0, YES, "mine", NOUGHT), (0, 0, YES, "end", ONE)]
        for at in range(6):
            self.assertEqual(len(self.lesser(ENDED, WIDE, paper[at:] + paper[:at])), 3)

    def test_three_that_take_turns(self):
        looks = [("end", NOUGHT), ("end", ONE), ("both", NOUGHT)]
        paper = [(0, 0, ("both", a_is(at % 3), ("same", yours("c"), ("number", at % 4)))) + looks[at * at % 3]
                 for at in range(12)]
        self.assertEqual(len(self.lesser(ENDED, WIDE, paper)), 2)
        paper = [(0, 0, ("not", ("same", yours("c"), ("number", at % 4)))) + looks[at % 3] for at in range(7)]
        self.assertEqual(len(self.lesser(ENDED, WIDE, paper)), 3)

    def test_other_places_are_not_alike(self):
        paper = [(p, q, YES, "both", NOUGHT) for p in range(3) for q in range(5)]
        self.assertEqual(len(self.lesser(SHORT, LONG, paper)), 15)
        self.assertEqual(len(self.lesser(SHORT, LONG, paper + paper[::-1])), 15)

    def test_conditions_that_never_hold(self):
        for never in (NO, ("under", mine("a"), NOUGHT), ("both", YES, NO)):
            for paper in ([(0, 0, never, "end", NOUGHT)], [(0, 0, never, "end", NOUGHT)] * 3,
                          [(0, 0, never, "end", NOUGHT), (0, 0, YES, "end", ONE), (0, 0, never, "end", NOUGHT)],
                          [(0, 0, never, "end", NOUGHT), (0, 0, YES, "end", NOUGHT), (0, 0, never, "end", ONE)]):
                self.lesser(ENDED, WIDE, paper)
        self.lesser(SHORT, LONG, [(0, 0, NO, "yours", ONE)] + GOOD)

    def test_no_boxes(self):
        nothing = program_of([], [], [END])
        self.assertEqual(len(self.lesser(nothing, nothing, [(0, 0, NO, "end", NOUGHT), (0, 0, YES, "end", NOUGHT)])), 1)
        self.assertEqual(len(self.lesser(nothing, nothing, [(0, 0, NO, "end", NOUGHT)] * 2)), 1)

    def test_waits_twenty_deep(self):
        deep, deeper = mine("a"), mine("a")
        for at in range(19):
            deep, deeper = ("plus", NOUGHT, deep), ("less", ("plus", deeper, ONE), ONE) if at % 2 else deeper
        paper = [(0, 0, a_is(0), "end", deep), (0, 0, a_is(1), "end", deeper), (0, 0, YES, "end", deep),
                 (0, 0, YES, "end", ("plus",) + deep[1:])]
        self.assertEqual(len(self.lesser(ENDED, WIDE, paper)), 2)

    def test_papers_that_are_not_let_by(self):
        for paper in BAD:
            for doubled in (paper, paper + paper[:2], paper[::-1] + paper):
                told = lesser_paper(SHORT, LONG, doubled)
                self.is_paper(told)
                self.assertIs(paper_shows(SHORT, LONG, told), paper_shows(SHORT, LONG, doubled))

    def test_papers_that_are_told(self):
        for one, other, many in ((SHORT, LONG, 5), (LONG, SHORT, 5), (LONG, LONG, 5), (SHORT, SHORT, 3)):
            self.assertEqual(len(self.lesser(one, other, likeness(one, other)[1])), many)

    def test_by_chance(self):
        dice, shorter = random.Random(30), 0
        for many in range(250):
            one, other, paper = some_paper(dice)
            if len(all_worths(one)) * len(all_worths(other)) > 60:
                continue
            paper = [entry[:4] + (dice.choice((NOUGHT, NOUGHT, ONE)),) for entry in paper[:12]] * dice.choice((1, 2))
            dice.shuffle(paper)
            shorter += len(self.lesser(one, other, paper)) < len(paper)
        self.assertGreater(shorter, 80)

    def test_told_papers_by_chance(self):
        dice, found = random.Random(301), []
        while len(found) < 60:
            one, other = some_pair(dice)
            answer, paper = likeness(one, other)
            if answer == "paper" and len(paper) < 30 and len(all_worths(one)) * len(all_worths(other)) < 60:
                dice.shuffle(paper)
                self.lesser(one, other, paper)
                changed = some_change(dice, one, other, paper)
                self.lesser(one, other, changed)
                found.append(paper_shows(one, other, changed))
        self.assertGreater(min(found.count(True), found.count(False)), 10)

    def test_no_pair(self):
        for other in NO_PAIRS:
            for told in (lesser_paper, entries_come_to, kept_paper):
                for paper in ([], [(0, 0, YES, "end", NOUGHT)], [(9, -1, mine("ghost"), "nobody", yours("ghost"))]):
                    self.assertRaises(NoPair, told, PLAIN, other, paper)
                    self.assertRaises(NoPair, told, other, PLAIN, paper)

    def test_lists_are_told_anew(self):
        for told in (lesser_paper, entries_come_to):
            for paper in (list(GOOD), GOOD + GOOD):
                answer, before = told(SHORT, LONG, paper), list(paper)
                due = list(answer)
                answer.clear()
                self.assertEqual((paper, told(SHORT, LONG, paper)), (before, due))
        paper = list(BAD[-4])
        lesser_paper(SHORT, LONG, paper).clear()
        self.assertEqual(paper, BAD[-4])


class ComeTo(Case):
    def come(self, one, other, paper, due=None):
        before = copy.deepcopy((one, other, paper))
        told = entries_come_to(one, other, paper)
        self.assertEqual((one, other, paper), before)
        self.assertIs(type(told), list)
        self.assertEqual(told, sorted(come_as_told(one, other, paper)))
        if due is not None:
            self.assertEqual(told, due)
        return told

    def test_by_each_who(self):
        self.come(SHORT, LONG, GOOD, [0, 1, 2, 3, 4])
        self.come(SHORT, LONG, GOOD[::-1], [0, 1, 2, 3, 4])
        self.come(LONG, SHORT, turned_about(GOOD), [0, 1, 2, 3, 4])

    def test_an_empty_paper(self):
        self.come(SHORT, LONG, [], [])

    def test_entries_that_are_not_come_to(self):
        never = [(0, 0, SAME, "yours", TWO), (1, 1, YES, "both", NOUGHT), (1, 2, ("under", mine("a"), yours("a")), "both", ONE)]
        self.come(SHORT, LONG, GOOD + never, [0, 1, 2, 3, 4])
        self.come(SHORT, LONG, never[1:] + GOOD, [2, 3, 4, 5, 6])
        self.come(SHORT, LONG, [(1, 2, NO, "end", BELOW)] + GOOD, [1, 2, 3, 4, 5])

    def test_no_entry_at_a_beginning(self):
        self.come(SHORT, LONG, GOOD[1:], [])
        for number in range(4):
            paper = [(0, 0, ("both", SAME, a_is(number)), "yours", ONE)] + GOOD[1:]
            self.come(SHORT, LONG, paper, [0, 1, 2, 3, 4])
            split = paper[:2] + [(1, 2, a_is(held), "both", NOUGHT) for held in range(4)] + GOOD[3:]
            self.come(SHORT, LONG, split, sorted([0, 1, 2 + (number + 1) % 4, 6, 7]))

    def test_an_entry_that_is_not_well_is_told_but_none_behind_it(self):
        for at, entry in enumerate(GOOD):
            p, q, condition, who, wait = entry
            for wrong in ((p, q, condition, who, BELOW), (p, q, condition, "end" if who != "end" else "both", wait)):
                paper = GOOD[:at] + [wrong] + GOOD[at + 1:]
                self.come(SHORT, LONG, paper, list(range(at + 1)))
        self.come(SHORT, LONG, [(0, 0, SAME, "yours", NOUGHT)] + GOOD[1:], [0])
        self.come(SHORT, LONG, GOOD[:1] + GOOD[2:], [0])
        self.come(SHORT, LONG, GOOD[:1] + [(0, 1, KEPT, "both", ONE)] + GOOD[2:], [0])
        self.come(SHORT, LONG, GOOD[:2] + [(1, 2, SAME, "mine", ONE)] + GOOD[3:], [0, 1, 2])
        self.come(SHORT, LONG, GOOD[:2] + [(1, 2, SAME, "yours", ONE)] + GOOD[3:], [0, 1, 2])

    def test_says_of_unlike_worths(self):
        one = program_of([("a", 3)], ["a"], [("say", A, 1), END])
        other = program_of([("a", 3)], ["a"], [("say", ("plus", A, ONE), 1), END])
        paper = [(0, 0, YES, "both", NOUGHT), (1, 1, YES, "end", NOUGHT)]
        self.come(one, one, paper, [0, 1])
        self.come(one, other, paper, [0])

    def test_well_at_some_worths_and_not_at_others(self):
        boxes = [("a", 3)]
        one = program_of(boxes, ["a"], [("put", "a", more("a"), 1), END])
        other = program_of([], [], [END])
        for begun in range(3):
            first = program_of(boxes, ["a"], [("put", "a", ("number", begun), 1)] + [("put", "a", more("a"), 2), END])
            second = program_of(boxes, ["a"], [END])
            paper = [(0, 0, YES, "mine", ("number", 9)), (1, 0, YES, "mine", mine("a"))]
            paper.extend([(2, 0, a_is(number), "end", NOUGHT) for number in range(3)])
            self.come(first, second, paper, {0: [0, 1], 1: [0, 1, 4], 2: [0, 1, 2]}[begun])
        self.come(program_of(boxes, [], one[2]), other, [(0, 0, YES, "mine", mine("a")), (1, 0, YES, "end", NOUGHT)], [0])

    def test_rounds(self):
        one = program_of([("a", 3)], [], [("put", "a", more("a"), 0)])
        paper = [(0, 0, a_is(number), "both", NOUGHT) for number in (2, 1, 0)]
        self.come(one, one, paper, [0, 1, 2])
        self.come(one, one, paper[:2] + [(0, 0, a_is(0), "mine", TWO)], [0, 1, 2])
        self.come(one, one, paper[:2] + [(0, 0, a_is(0), "mine", NOUGHT)], [2])
        self.come(one, program_of([], [], [END]), [(0, 0, YES, "mine", ("less", TWO, mine("a")))], [0])

    def test_by_chance(self):
        dice, found = random.Random(31), []
        while len(found) < 150:
            one, other = some_pair(dice)
            answer, paper = likeness(one, other)
            if answer == "paper" and len(paper) < 25 and len(all_worths(one)) * len(all_worths(other)) < 60:
                dice.shuffle(paper)
                for many in range(3):
                    changed = some_change(dice, one, other, paper)
                    found.append(len(self.come(one, other, changed)) < len(changed))
        self.assertGreater(min(found.count(True), found.count(False)), 30)
        for many in range(150):
            one, other, paper = some_paper(dice)
            self.come(one, other, paper)


class Kept(Case):
    def kept(self, one, other, paper):
        before = copy.deepcopy((one, other, paper))
        told = kept_paper(one, other, paper)
        self.assertEqual((one, other, paper), before)
        self.is_paper(told)
        come = come_as_told(one, other, paper)
        self.assertEqual([look(entry) for entry in told], [look(paper[number]) for number in sorted(come)])
        for entry, number in zip(told, sorted(come)):
            # Alone, so that no other entry can count ahead of it.
            self.assertEqual(entry_worths(one, other, [entry], 0), come[number])
        self.assertIs(paper_shows(one, other, told), True)
        return told

    def test_good_papers(self):
        self.kept(SHORT, LONG, GOOD)
        self.kept(LONG, SHORT, turned_about(GOOD)[::-1])
        never = [(0, 0, SAME, "yours", BELOW), (0, 0, NO, "both", BELOW), (2, 0, NO, "yours", NOUGHT)]
        self.assertEqual(len(self.kept(SHORT, LONG, GOOD + never)), 5)
        self.assertEqual(len(self.kept(SHORT, LONG, never[1:] + GOOD)), 5)

    def test_entries_that_count_but_are_not_come_to(self):
        loose = program_of([("a", 3)], [], [("put", "a", ONE, 1), ("say", A, 2), END])
        paper = [(0, 0, a_is(1), "both", NOUGHT), (0, 0, YES, "both", ONE), (1, 1, ("under", mine("a"), ONE), "both", ONE),
                 (1, 1, SAME, "both", NOUGHT), (2, 2, YES, "end", NOUGHT), (1, 2, NO, "end", NOUGHT)]
        paper[2] = (1, 1, ("both", paper[2][2], SAME), "both", ONE)
        told = self.kept(loose, loose, paper)
        self.assertEqual([entry[:2] + entry[4:] for entry in told],
                         [(0, 0, ONE), (1, 1, NOUGHT), (2, 2, NOUGHT)])

    def test_no_boxes(self):
        nothing = program_of([], [], [END])
        self.kept(nothing, nothing, [(0, 0, NO, "end", NOUGHT), (0, 0, YES, "end", ONE), (0, 0, YES, "end", NOUGHT)])

    def test_papers_that_are_not_let_by(self):
        for paper in BAD:
            before = copy.deepcopy(paper)
            self.assertIs(paper_shows(SHORT, LONG, paper), False)
            self.assertRaises(NoPaper, kept_paper, SHORT, LONG, paper)
            self.assertEqual(paper, before)
        apart = GOOD + [(1, 2, YES, "both", NOUGHT)]
        self.assertEqual(entries_come_to(SHORT, LONG, apart), [0, 1, 2, 3, 4])
        self.assertRaises(NoPaper, kept_paper, SHORT, LONG, apart)

    def test_by_chance(self):
        dice, found = random.Random(32), []
        while found.count(True) < 100:
            one, other = some_pair(dice)
            answer, paper = likeness(one, other)
            if answer == "paper" and len(paper) < 25 and len(all_worths(one)) * len(all_worths(other)) < 60:
                paper = lesser_paper(one, other, paper) if dice.random() < 0.5 else paper
                self.kept(one, other, self.kept(one, other, paper))
                changed = some_change(dice, one, other, [entry[:4] + (entry[4],) for entry in paper])
                found.append(paper_shows(one, other, changed))
                if found[-1]:
                    self.kept(one, other, changed)
                else:
                    self.assertRaises(NoPaper, kept_paper, one, other, changed)
        self.assertGreater(found.count(False), 40)

    def test_lists_are_told_anew(self):
        told = kept_paper(SHORT, LONG, GOOD)
        due = list(told)
        told.clear()
        self.assertEqual(kept_paper(SHORT, LONG, GOOD), due)


class Bounds(Case):
    def test_three_thousand_entries_at_four_thousand_worths_in_good_time(self):
        many = 38
        nodes = [("put", "a", ("plus", A, B), (at + 1) % many) for at in range(many)]
        program = program_of([("a", 9), ("b", 7)], ["a", "b"], nodes)
        some = ("not", ("both", ("under", ("plus", mine("a"), yours("b")), TWO), ("under", mine("b"), yours("a"))))
        places = [(p, q) for p in range(many) for q in range(many)]
        paper = [(p, q, some, "both", NOUGHT) for p, q in places] + [(p, q, YES, "both", NOUGHT) for p, q in places]
        paper.extend([(0, 0, YES, "end", BELOW)] * (3000 - len(paper)))
        begun = time.perf_counter()
        told = lesser_paper(program, program, paper)
        self.assertEqual(len(told), 1445)
        self.assertIs(paper_shows(program, program, told), True)
        self.assertEqual(entries_come_to(program, program, told), [at * many + at for at in range(many)])
        self.assertEqual(len(entries_come_to(program, program, paper)), 2 * many)
        kept = kept_paper(program, program, paper)
        self.assertEqual(len(kept), 2 * many)
        self.assertEqual(len(entry_worths(program, program, lesser_paper(program, program, kept), 0)), 63)
        self.assertLess(time.perf_counter() - begun, 90)

    def test_papers_that_are_told_of_two_thousand_entries(self):
        nodes = [("put", "a", more("a"), at + 1) for at in range(29)] + [("say", A, 30), END]
        program = program_of([("a", 9), ("b", 7)], ["a", "b"], nodes)
        paper = likeness(program, program)[1]
        begun = time.perf_counter()
        told = lesser_paper(program, program, paper)
        self.assertEqual((len(paper), len(told)), (31 * 63, 31))
        self.assertIs(paper_shows(program, program, told), True)
        self.assertEqual(entries_come_to(program, program, paper), list(range(len(paper))))
        self.assertEqual(len(kept_paper(program, program, paper)), len(paper))
        self.assertLess(time.perf_counter() - begun, 60)

    def test_long_walks_in_good_time(self):
        programs = []
        for sizes, many in (([("a", 16), ("b", 4)], 40), ([("a", 9), ("b", 7)], 39)):
            nodes = [("put", "a", more("a"), at + 1) for at in range(many - 1)] + [("put", "b", more("b"), 0)]
            programs.append(program_of(sizes, [], nodes))
        paper = [(p, q, YES, "both", NOUGHT) for p in range(40) for q in range(39)]
        begun = time.perf_counter()
        self.assertEqual(entries_come_to(*programs, paper), list(range(1560)))
        self.assertLess(time.perf_counter() - begun, 60)


if __name__ == "__main__":
    unittest.main()
