"""[2] to [4], [33], [34]: papers turned about, and put behind one another."""

import copy
import random
import time
import unittest

from helper import A, B, BAD, BELOW, END, GOOD, LONG, NO, NO_PAIRS, NOUGHT, ONE, PLAIN, SAME, SHORT, TWO, YES, \
    all_worths, like_program, line, mine, more, some_change, some_pair, some_paper, turned_about, yours
from twinwalk.errors import NoPair, NoPaper, TooMany
from twinwalk.findings import likeness
from twinwalk.lesser import kept_paper, lesser_paper
from twinwalk.papers import paper_shows
from twinwalk.programs import program_of
from twinwalk.turns import put_behind, turned_paper


class Turned(unittest.TestCase):
    def turned(self, paper):
        before = copy.deepcopy(paper)
        told = turned_paper(paper)
        self.assertEqual(paper, before)
        self.assertIs(type(told), list)
        self.assertTrue(all(type(entry) is tuple and len(entry) == 5 for entry in told))
        self.assertEqual(turned_paper(told), before)
        return told

    def test_everything_within(self):
        paper = [(1, 2, ("both", ("not", ("same", mine("a"), yours("b"))), ("under", yours("c"), ("plus", mine("d"), ONE))),
                  "mine", ("less", ("plus", yours("a"), TWO), mine("a"))),
                 (3, 0, YES, "yours", mine("a")), (0, 0, NO, "both", yours("b")), (5, 5, YES, "end", NOUGHT)]
        due = [(2, 1, ("both", ("not", ("same", yours("a"), mine("b"))), ("under", mine("c"), ("plus", yours("d"), ONE))),
                "yours", ("less", ("plus", mine("a"), TWO), yours("a"))),
               (0, 3, YES, "mine", yours("a")), (0, 0, NO, "both", mine("b")), (5, 5, YES, "end", NOUGHT)]
        self.assertEqual(self.turned(paper), due)
        self.assertEqual(self.turned(due), paper)

    def test_an_empty_paper(self):
        self.assertEqual(self.turned([]), [])

    def test_boxes_that_are_called_mine_or_yours(self):
        paper = [(0, 1, ("same", mine("mine"), yours("mine")), "mine", mine("yours")),
                 (0, 1, ("not", ("under", mine("yours"), yours("yours"))), "yours", ("plus", yours("mine"), mine("both")))]
        self.assertEqual(self.turned(paper),
                         [(1, 0, ("same", yours("mine"), mine("mine")), "yours", yours("yours")),
                          (1, 0, ("not", ("under", yours("yours"), mine("yours"))), "mine",
                           ("plus", mine("mine"), yours("both")))])
        boxes = [("mine", 3), ("yours", 2), ("number", 2), ("plus", 2)]
        one = program_of(boxes, ["mine"], [("put", "mine", more("mine"), 1), ("say", ("box", "mine"), 2), END])
        other = program_of([("mine", 3)], ["mine"], one[2])
        alike = ("both", ("same", mine("mine"), yours("mine")), ("both", ("same", mine("yours"), mine("number")),
                                                               ("same", mine("plus"), NOUGHT)))
        paper = [(at, at, alike, who, NOUGHT) for at, who in enumerate(("both", "both", "end"))]
        self.assertIs(paper_shows(one, other, paper), True)
        self.assertIs(paper_shows(other, one, self.turned(paper)), True)

    def test_twenty_within_one_another(self):
        deep, due = mine("a"), yours("a")
        held, held_due = ("same", mine("a"), yours("b")), ("same", yours("a"), mine("b"))
        for at in range(19):
            deep, due = (("plus", "less")[at % 2], yours("c"), deep), (("plus", "less")[at % 2], mine("c"), due)
            held, held_due = ("not", held), ("not", held_due)
            if at % 2:
                held, held_due = ("both", held, ("under", mine("a"), ONE)), ("both", held_due, ("under", yours("a"), ONE))
        self.assertEqual(self.turned([(0, 1, held, "mine", deep)]), [(1, 0, held_due, "yours", due)])
        self.assertEqual(self.turned([(0, 1, YES, "end", ("plus", ONE, deep))])[0][4], ("plus", ONE, due))

    def test_let_by_just_where_the_paper_is(self):
        self.assertIs(paper_shows(LONG, SHORT, self.turned(GOOD)), True)
        for paper in BAD:
            self.assertIs(paper_shows(LONG, SHORT, self.turned(paper)), False)

    def test_by_chance(self):
        dice, found = random.Random(33), []
        for many in range(200):
            one, other, paper = some_paper(dice)
            self.assertEqual(self.turned(paper), turned_about(paper))
            answer, told = likeness(one, other)
            if answer == "paper" and len(told) < 25 and len(all_worths(one)) * len(all_worths(other)) < 60:
                changed = some_change(dice, one, other, told)
                found.append(paper_shows(one, other, changed))
                self.assertIs(paper_shows(other, one, self.turned(told)), True)
                self.assertIs(paper_shows(other, one, self.turned(changed)), found[-1])
        self.assertGreater(min(found.count(True), found.count(False)), 10)

    def test_lists_are_told_anew(self):
        paper = list(GOOD)
        told = turned_paper(paper)
        told.clear()
        self.assertEqual((paper, turned_paper(paper)), (GOOD, turned_about(GOOD)))


def slower(dice, paper):
    """The paper with greater waits, and its entries in another order."""
    by = ("number", dice.randrange(5))
    told = [(p, q, condition, who, ("plus", wait, by)) for p, q, condition, who, wait in paper]
    dice.shuffle(told)
    return told


def made_over(dice, one, other, paper):
    """The paper made over in some way; each condition of a told one holds at worths of its own."""
    for many in range(dice.randrange(3)):
        paper = dice.choice((lambda: lesser_paper(one, other, paper), lambda: kept_paper(one, other, paper),
                             lambda: slower(dice, kept_paper(one, other, paper)),
                             lambda: turned_paper(lesser_paper(other, one, turned_paper(paper)))))()
    return paper


class Behind(unittest.TestCase):
    def behind(self, programs, papers):
        before = copy.deepcopy((programs, papers))
        told = put_behind(*programs, *papers)
        self.assertEqual((programs, papers), before)
        self.assertIs(type(told), list)
        self.assertTrue(all(type(entry) is tuple and len(entry) == 5 for entry in told))
        self.assertIs(paper_shows(programs[0], programs[2], told), True)
        due = list(told)
        told.clear()
        self.assertEqual(put_behind(*programs, *papers), due)
        return due

    def test_papers_by_hand(self):
        back = turned_paper(GOOD)
        self.behind((SHORT, LONG, SHORT), (GOOD, back))
        self.behind((LONG, SHORT, LONG), (back, GOOD))
        same = ("both", SAME, ("same", mine("t"), yours("t")))
        level = [(at, at, same, "both", NOUGHT) for at in range(4)] + [(4, 4, YES, "end", NOUGHT)]
        self.behind((SHORT, LONG, LONG), (GOOD, level))
        self.behind((LONG, LONG, SHORT), (level, back))

    def test_the_second_one_walks_alone_in_both(self):
        quick = program_of([("a", 2)], ["a"], [("say", A, 1), END])
        slow = program_of([("a", 2)], ["a"], [("test", YES, 1, 1), ("test", YES, 2, 2), ("say", A, 3), ("test", YES, 4, 4),
                                              END])
        for third in (quick, slow):
            for first in (quick, slow):
                for second in (quick, slow):
                    papers = (likeness(first, second)[1], likeness(second, third)[1])
                    self.behind((first, second, third), papers)

    def test_one_steps_alone_behind_the_other(self):
        """In the first paper yours steps alone first, then both; in the second one both, then mine alone."""
        quick = program_of([], [], [("test", YES, 1, 1), ("say", ONE, 2), END])
        slow = program_of([], [], [("test", YES, 1, 1), ("test", YES, 2, 2), ("say", ONE, 3), END])
        first = [(0, 0, YES, "yours", ONE), (0, 1, YES, "both", NOUGHT), (1, 2, YES, "both", NOUGHT),
                 (2, 3, YES, "end", NOUGHT)]
        late = [(0, 0, YES, "both", NOUGHT), (1, 1, YES, "yours", ONE), (1, 2, YES, "both", NOUGHT),
                (2, 3, YES, "end", NOUGHT)]
        for one in (first, late):
            for other in (first, late):
                self.behind((quick, slow, quick), (one, turned_paper(other)))
                self.behind((slow, quick, slow), (turned_paper(one), other))

    def test_all_three_go_round_saying_nothing(self):
        still = program_of([], [], [("test", YES, 0, 0)])
        slow = program_of([("a", 3)], [], [("put", "a", more("a"), 1), ("test", YES, 0, 0)])
        down = ("less", TWO, yours("a"))
        paper = [(0, 0, ("under", yours("a"), TWO), "yours", ("plus", down, down)), (0, 1, ("under", yours("a"), TWO),
                                                                                      "yours", ("plus", down, ("plus", down, ONE))),
                 (0, 0, YES, "both", NOUGHT), (0, 1, YES, "both", NOUGHT)]
        self.assertIs(paper_shows(still, slow, paper), True)
        self.behind((still, slow, still), (paper, turned_paper(paper)))
        self.behind((slow, still, slow), (turned_paper(paper), paper))
        both = [(0, 0, YES, "both", NOUGHT), (0, 1, YES, "both", NOUGHT)]
        self.behind((still, slow, still), (both, turned_paper(paper)))
        self.behind((still, still, slow), (both[:1], paper))

    def test_no_paper(self):
        good, back = GOOD, turned_paper(GOOD)
        for bad in BAD:
            self.assertRaises(NoPaper, put_behind, SHORT, LONG, SHORT, bad, back)
            self.assertRaises(NoPaper, put_behind, SHORT, LONG, SHORT, good, turned_paper(bad))
            self.assertRaises(NoPaper, put_behind, SHORT, LONG, SHORT, bad, turned_paper(bad))
        self.assertRaises(NoPaper, put_behind, SHORT, LONG, SHORT, back, good)
        silent = program_of([("a", 4)], ["a"], [END])
        self.assertRaises(NoPaper, put_behind, SHORT, silent, SHORT, GOOD, back)

    def test_no_pair_ahead_of_no_paper(self):
        end = [(0, 0, YES, "end", NOUGHT)]
        for other in NO_PAIRS:
            for papers in ((end, end), ([], []), (BAD[-1], BAD[-2])):
                for programs in ((PLAIN, PLAIN, other), (PLAIN, other, PLAIN), (other, PLAIN, PLAIN),
                                 (PLAIN, other, other), (other, other, PLAIN)):
                    self.assertRaises(NoPair, put_behind, *programs, *papers)

    def test_two_thousand_entries_and_one_more(self):
        sizes = [("a", 16), ("b", 5)]
        one = line(24, sizes, ["a", "b"])
        nodes = [("test", ("both", ("same", A, ("number", 15)), ("same", B, ("number", 4))), 25, 1)]
        above = program_of(sizes, ["a", "b"], nodes + one[2][1:] + [("test", YES, 1, 0)])
        bare = program_of(sizes, ["a", "b"], [END])
        end = [(0, 0, YES, "end", NOUGHT)]
        found = {}
        for name, program in (("one", one), ("above", above)):
            waits = [("number", 24 - at) for at in range(25)] + [("number", 24)]
            ahead = [("number", 25)] + waits[1:]
            found[name] = [(at, 0, YES, "end" if at == 24 else "mine", ahead[at]) for at in range(len(program[2]))]
            self.assertIs(paper_shows(program, bare, found[name]), True)
        self.assertEqual(len(put_behind(one, bare, bare, found["one"], end)), 2000)
        self.assertEqual(len(put_behind(bare, bare, one, end, turned_paper(found["one"]))), 2000)
        self.assertEqual(len(put_behind(bare, above, bare, turned_paper(found["above"]), found["above"])), 80)
        self.assertRaises(TooMany, put_behind, above, bare, bare, found["above"], end)
        self.assertRaises(TooMany, put_behind, bare, bare, above, end, turned_paper(found["above"]))
        self.assertRaises(NoPaper, put_behind, above, bare, bare, found["above"], [])
        self.assertRaises(NoPaper, put_behind, above, bare, bare, found["above"][1:], end)

    def test_by_chance(self):
        dice, found = random.Random(34), {True: 0, False: 0}
        while min(found.values()) < 40:
            first = some_pair(dice)[0]
            second, third = like_program(dice, first), like_program(dice, first)
            if max(len(all_worths(one)) * len(all_worths(other)) for one, other in
                   ((first, second), (second, third), (first, third))) > 80:
                continue
            papers = []
            for one, other in ((first, second), (second, third)):
                papers.append(made_over(dice, one, other, likeness(one, other)[1]))
                self.assertIs(paper_shows(one, other, papers[-1]), True)
            self.behind((first, second, third), tuple(papers))
            changed = some_change(dice, second, third, [entry[:4] + (("number", 9),) for entry in papers[1]])
            found[paper_shows(second, third, changed)] += 1
            if paper_shows(second, third, changed):
                self.behind((first, second, third), (papers[0], changed))
            else:
                self.assertRaises(NoPaper, put_behind, first, second, third, papers[0], changed)

    def test_at_the_bounds_in_good_time(self):
        many = 38
        nodes = [("put", "a", ("plus", A, B), at + 1) for at in range(many - 1)] + [("put", "b", NOUGHT, 0)]
        program = program_of([("a", 9), ("b", 7)], [], nodes)
        places = [(p, q) for p in range(many) for q in range(many)]
        paper = [(p, q, ("under", mine("a"), yours("b")), "both", NOUGHT) for p, q in places]
        paper.extend([(p, q, YES, "both", ONE) for p, q in places])
        paper.extend([(0, 0, YES, "end", BELOW)] * (3000 - len(paper)))
        begun = time.perf_counter()
        self.assertEqual(len(put_behind(program, program, program, paper, turned_paper(paper))), many)
        self.assertLess(time.perf_counter() - begun, 60)


if __name__ == "__main__":
    unittest.main()
