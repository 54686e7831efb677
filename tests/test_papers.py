"""[2], [3], [16] to [19]: papers, whether they are let by, and where an entry counts."""

import copy
import random
import time
import unittest

from helper import A, B, BELOW, END, GOOD, LONG, NO, NOUGHT, ONE, SAME, SHORT, TWO, YES, all_worths, entry_counting, \
    mine, more, shows_as_told, some_change, some_pair, some_paper, turned_about, walk_as_told, yours
from twinwalk.findings import likeness
from twinwalk.papers import entry_worths, paper_shows
from twinwalk.programs import program_of
from twinwalk.runs import every_input

class LetBy(unittest.TestCase):
    def shows(self, paper, due, one=SHORT, other=LONG):
        self.assertIs(paper_shows(one, other, paper), due)
        self.assertIs(paper_shows(other, one, turned_about(paper)), due)

    def with_entry(self, number, **changed):
        entry = dict(zip(("p", "q", "condition", "who", "wait"), GOOD[number]))
        entry.update(changed)
        return GOOD[:number] + [tuple(entry.values())] + GOOD[number + 1:]

    def test_a_good_paper(self):
        self.shows(GOOD, True)
        self.shows(GOOD[::-1], True)

    def test_another_good_paper(self):
        wrapped = ("plus", yours("t"), ONE)
        behind = ("both", ("under", wrapped, ("number", 4)), ("same", mine("a"), wrapped))
        around = ("both", ("same", mine("a"), NOUGHT), ("same", yours("t"), ("number", 3)))
        either = ("not", ("both", ("not", behind), ("not", around)))
        self.shows([(0, 0, SAME, "both", NOUGHT), (1, 1, either, "yours", ("number", 7))] + GOOD[2:], True)
        self.shows([(0, 0, SAME, "both", NOUGHT), (1, 1, behind, "yours", ONE)] + GOOD[2:], False)
        self.shows([(0, 0, SAME, "both", NOUGHT), (1, 1, YES, "yours", ONE)] + GOOD[2:], False)

    def test_an_entry_less(self):
        for number in range(len(GOOD)):
            self.shows(GOOD[:number] + GOOD[number + 1:], False)

    def test_an_empty_paper(self):
        self.shows([], False)
        nothing = program_of([], [], [END])
        self.shows([], False, nothing, nothing)

    def test_no_entry_at_a_beginning(self):
        for worth in range(4):
            left = ("not", ("same", mine("a"), ("number", worth)))
            self.shows(self.with_entry(0, condition=("both", SAME, left)), False)
        self.shows(self.with_entry(0, condition=("both", SAME, ("under", yours("a"), ("number", 3)))), False)
        self.shows(self.with_entry(0, condition=("both", SAME, ("under", yours("a"), ("number", 4)))), True)

    def test_beginnings_have_nought_in_other_boxes(self):
        self.shows(self.with_entry(0, condition=("both", SAME, ("same", yours("t"), NOUGHT))), True)
        self.shows(self.with_entry(0, condition=("both", SAME, ("same", yours("t"), ONE))), False)

    def test_a_condition_that_holds_too_often(self):
        for number in (0, 1, 2):
            self.shows(self.with_entry(number, condition=YES), False)

    def test_another_who(self):
        for number in range(len(GOOD)):
            for who in ("mine", "yours", "both", "end"):
                self.shows(self.with_entry(number, who=who), who == GOOD[number][3])

    def test_waits(self):
        self.shows(self.with_entry(0, wait=NOUGHT), False)
        self.shows(self.with_entry(0, wait=TWO), True)
        self.shows(self.with_entry(3, wait=NOUGHT), False)
        self.shows(self.with_entry(3, wait=("number", 10 ** 30 - 1)), True)
        self.shows(self.with_entry(1, wait=ONE), False)
        self.shows(self.with_entry(4, wait=ONE), False)
        self.shows(self.with_entry(2, wait=ONE), True)
        for number in range(len(GOOD)):
            self.shows(self.with_entry(number, wait=BELOW), False)

    def test_waits_below_nought_behind(self):
        self.shows(self.with_entry(3, wait=NOUGHT)[:4] + [(2, 4, YES, "end", BELOW)], False)

    def test_waits_by_worths(self):
        self.shows(self.with_entry(0, wait=("plus", mine("a"), ONE)), True)
        self.shows(self.with_entry(0, wait=yours("a")), False)
        self.shows(self.with_entry(2, wait=("less", mine("a"), ONE)), False)
        self.shows(self.with_entry(2, wait=("less", ("number", 3), mine("a"))), True)
        self.shows(self.with_entry(2, wait=("less", TWO, mine("a"))), False)

    def test_an_entry_put_ahead_that_counts_first(self):
        for number, (p, q, condition, who, wait) in enumerate(GOOD):
            for wrong in ((p, q, YES, who, BELOW), (p, q, condition, "end" if who != "end" else "both", wait),
                          (p, q, ("same", mine("a"), TWO), "mine" if who != "mine" else "yours", BELOW)):
                with self.subTest(wrong=wrong):
                    self.shows([wrong] + GOOD, False)
                    self.shows(GOOD[:number] + [wrong] + GOOD[number:], False)

    def test_the_same_entry_behind_never_counts(self):
        for p, q, condition, who, wait in GOOD:
            for never in ((p, q, condition, who, wait), (p, q, ("both", condition, SAME), "both", BELOW),
                          (p, q, NO, "end", BELOW)):
                self.shows(GOOD + [never], True)

    def test_good_entries_that_never_count(self):
        for p in range(3):
            for q in range(5):
                for who in ("mine", "yours", "both", "end"):
                    never = (p, q, ("both", YES, ("under", mine("a"), NOUGHT)), who, ("less", NOUGHT, yours("t")))
                    self.shows([never] + GOOD, True)
                    self.shows([never], False)

    def test_entries_that_count_but_are_never_come_to(self):
        apart = ("under", mine("a"), yours("a"))
        self.shows(GOOD + [(0, 0, apart, "yours", BELOW)], False)
        self.shows(GOOD + [(0, 0, apart, "yours", TWO)], False)
        self.shows(GOOD + [(1, 2, apart, "both", NOUGHT)], False)
        self.shows(GOOD + [(0, 0, apart, "yours", TWO), (0, 1, YES, "both", NOUGHT)], False)
        loose = [("put", "a", NOUGHT, 1), ("say", ONE, 2), END]
        first = program_of([("a", 4)], [], loose)
        paper = [(0, 0, YES, "both", NOUGHT), (1, 1, SAME, "both", NOUGHT), (2, 2, YES, "end", NOUGHT)]
        self.shows(paper, True, first, first)
        self.shows(paper + [(1, 1, YES, "both", ONE)], True, first, first)

    def test_places_that_are_no_nodes(self):
        for p, q in ((-1, 0), (0, -1), (-1, -1), (3, 0), (0, 5), (4, 4), (2, 7), (10 ** 30 - 1, 0), (0, -10 ** 30)):
            for condition in (YES, NO):
                for at in (0, 3, 5):
                    self.shows(GOOD[:at] + [(p, q, condition, "end", NOUGHT)] + GOOD[at:], False)

    def test_the_last_node_by_a_number_below_nought(self):
        self.shows(GOOD[:4] + [(-1, -1, YES, "end", NOUGHT)], False)

    def test_another_text_as_who(self):
        for who in ("", "Mine", "none", "all", "mine ", "put", "yours, mine"):
            for condition in (YES, NO):
                for at in (0, 3, 5):
                    self.shows(GOOD[:at] + [(2, 4, condition, who, NOUGHT)] + GOOD[at:], False)

    def test_boxes_that_are_none(self):
        for ghost in (mine("t"), mine("ghost"), yours("b")):
            never = ("same", ONE, TWO)
            for wrong in ((2, 4, ("same", ghost, ghost), "end", NOUGHT), (2, 4, YES, "end", ghost),
                          (2, 4, NO, "end", ghost), (2, 4, ("both", never, ("same", ONE, ghost)), "end", NOUGHT),
                          (2, 4, ("not", ("both", YES, ("under", ghost, ONE))), "end", NOUGHT),
                          (2, 4, never, "end", ("less", ("plus", ONE, ghost), ONE)),
                          (2, 4, ("both", ("both", NO, ("same", ghost, ONE)), YES), "end", NOUGHT)):
                for at in (0, 3, 5):
                    with self.subTest(wrong=wrong, at=at):
                        self.shows(GOOD[:at] + [wrong] + GOOD[at:], False)


class Kinds(unittest.TestCase):
    """Single reasons, where all else would be well."""

    def shows(self, one, other, paper, due):
        first, second = program_of([("a", 3)], [], one), program_of([("a", 3)], [], other)
        self.assertIs(paper_shows(first, second, paper), due)
        self.assertIs(paper_shows(second, first, turned_about(paper)), due)

    def test_a_step_alone_is_no_say(self):
        paper = [(0, 0, YES, "mine", ONE), (1, 0, YES, "both", NOUGHT), (2, 1, YES, "end", NOUGHT)]
        other = [("say", ONE, 1), END]
        self.shows([("say", ONE, 1), ("say", ONE, 2), END], other, paper, False)
        self.shows([("put", "a", ONE, 1), ("say", ONE, 2), END], other, paper, True)
        self.shows([("test", YES, 1, 0), ("say", ONE, 2), END], other, paper, True)
        self.shows([END, ("say", ONE, 2), END], other, paper, False)

    def test_a_step_alone_beside_any_node(self):
        paper = [(0, 0, YES, "mine", ONE), (1, 0, YES, "both", NOUGHT), (2, 1, YES, "end", NOUGHT)]
        one = [("put", "a", ONE, 1), ("test", YES, 2, 0), END]
        self.shows(one, [("put", "a", TWO, 1), END], paper, True)
        self.shows(one, [("test", NO, 0, 1), END], paper, True)
        ended = [(0, 0, YES, "mine", TWO), (1, 0, YES, "mine", ONE), (2, 0, YES, "end", NOUGHT)]
        self.shows(one, [END], ended, True)

    def test_both_by_kinds(self):
        paper = [(0, 0, YES, "both", NOUGHT), (1, 1, YES, "end", NOUGHT)]
        heads = {"put": ("put", "a", ONE, 1), "test": ("test", YES, 1, 0), "say": ("say", ONE, 1), "end": END}
        good = (("put", "put"), ("put", "test"), ("test", "put"), ("test", "test"), ("say", "say"))
        for first in heads:
            for second in heads:
                with self.subTest(first=first, second=second):
                    self.shows([heads[first], END], [heads[second], END], paper, (first, second) in good)

    def test_end_by_kinds(self):
        heads = {"put": ("put", "a", ONE, 0), "test": ("test", YES, 0, 0), "say": ("say", ONE, 0), "end": END}
        for first in heads:
            for second in heads:
                self.shows([heads[first]], [heads[second]], [(0, 0, YES, "end", NOUGHT)],
                           (first, second) == ("end", "end"))

    def test_says_of_unlike_worths(self):
        nodes, again = [("say", A, 1), END], [("say", ONE, 1), END]
        end = (1, 1, YES, "end", NOUGHT)
        self.shows(nodes, again, [(0, 0, YES, "both", NOUGHT), end], False)
        self.shows(nodes, nodes, [(0, 0, YES, "both", NOUGHT), end], False)
        self.shows(nodes, nodes, [(0, 0, SAME, "both", NOUGHT), end], True)
        self.shows(nodes, [("say", NOUGHT, 1), END], [(0, 0, ("same", mine("a"), NOUGHT), "both", NOUGHT), end], True)
        self.shows(nodes, [("say", NOUGHT, 1), END], [(0, 0, YES, "both", NOUGHT), end], False)
        self.shows([("say", ("less", A, ONE), 1), END], [("say", A, 1), END],
                   [(0, 0, ("same", mine("a"), ("plus", yours("a"), ONE)), "both", NOUGHT), end], False)

    def test_no_entry_behind(self):
        one, other = [("put", "a", more("a"), 1), END], [("put", "a", NOUGHT, 1), END]
        behind = ("not", ("same", mine("a"), NOUGHT))
        for condition, due in ((YES, True), (behind, False), (("same", yours("a"), NOUGHT), True), (NO, False)):
            self.shows(one, other, [(0, 0, YES, "both", NOUGHT), (1, 1, condition, "end", NOUGHT)], due)
        begun = ("same", mine("a"), NOUGHT)
        self.shows(one, other, [(0, 0, begun, "both", NOUGHT), (1, 1, behind, "end", NOUGHT)], True)
        for condition, due in ((YES, True), (behind, False), (("same", yours("a"), NOUGHT), False), (NO, False)):
            self.shows(one, [END], [(0, 0, YES, "mine", ONE), (1, 0, condition, "end", NOUGHT)], due)

    def test_none_walks_alone_for_ever(self):
        round_about = [("put", "a", more("a"), 0)]
        for wait in (NOUGHT, ONE, mine("a"), ("less", TWO, mine("a")), ("number", 10 ** 30)):
            self.shows(round_about, [END], [(0, 0, YES, "mine", wait)], False)
        self.shows(round_about, round_about, [(0, 0, YES, "both", NOUGHT)], True)

    def test_the_wait_behind_is_that_of_the_entry_that_counts_there(self):
        one, other = [("put", "a", more("a"), 1), END], [END]
        below = ("under", mine("a"), TWO)
        paper = [(0, 0, YES, "mine", ONE), (1, 0, below, "end", NOUGHT), (1, 0, YES, "end", ONE)]
        self.shows(one, other, paper, False)
        self.shows(one, other, [(0, 0, YES, "mine", TWO)] + paper[1:], True)
        self.shows(one, other, paper[:2] + [(1, 0, YES, "end", NOUGHT)], True)
        self.shows(one, other, [(0, 0, YES, "mine", mine("a")), (1, 0, YES, "end", NOUGHT)], False)

    def test_behind_both_the_wait_may_be_greater(self):
        self.shows([("put", "a", ONE, 1), END], [("put", "a", TWO, 1), END],
                   [(0, 0, YES, "both", NOUGHT), (1, 1, YES, "end", ("number", 9))], True)

    def test_no_boxes_and_no_inputs(self):
        for paper, due in (([(0, 0, YES, "end", NOUGHT)], True), ([(0, 0, NO, "end", NOUGHT)], False), ([], False)):
            nothing = program_of([], [], [END])
            self.assertIs(paper_shows(nothing, nothing, paper), due)
        round_about = program_of([], [], [("say", ONE, 0)])
        self.assertIs(paper_shows(round_about, round_about, [(0, 0, YES, "both", NOUGHT)]), True)
        self.assertIs(paper_shows(round_about, nothing, [(0, 0, YES, "both", NOUGHT)]), False)


class EntryWorths(unittest.TestCase):
    def test_of_each_entry(self):
        one = program_of([("b", 2), ("a", 3)], ["a"], [END])
        other = program_of([("a", 3)], ["a"], [END])
        paper = [(0, 0, ("both", SAME, ("same", mine("b"), ONE)), "end", NOUGHT),
                 (0, 0, SAME, "end", NOUGHT), (0, 0, ("under", mine("a"), yours("a")), "end", ONE),
                 (0, 0, ("under", ("plus", mine("b"), mine("a")), TWO), "both", NOUGHT), (0, 0, YES, "mine", BELOW),
                 (0, 0, YES, "end", NOUGHT)]
        due = [[([1, 0], [0]), ([1, 1], [1]), ([1, 2], [2])],
               [([0, 0], [0]), ([0, 1], [1]), ([0, 2], [2])],
               [([0, 0], [1]), ([0, 0], [2]), ([0, 1], [2]), ([1, 0], [1]), ([1, 0], [2]), ([1, 1], [2])],
               [([0, 1], [0])],
               [([0, 2], [0]), ([0, 2], [1]), ([1, 1], [0]), ([1, 2], [0]), ([1, 2], [1])],
               []]
        for number, worths in enumerate(due):
            told = entry_worths(one, other, paper, number)
            self.assertEqual(told, worths)
            self.assertEqual(told, sorted(told))
            self.assertIs(type(told), list)
            for row in told:
                self.assertEqual([type(row), type(row[0]), type(row[1])], [tuple, list, list])

    def test_entries_of_other_places_take_nothing(self):
        paper = [(0, 1, YES, "yours", NOUGHT), (1, 0, YES, "yours", NOUGHT), (0, 0, SAME, "yours", NOUGHT)]
        self.assertEqual(entry_worths(SHORT, LONG, paper, 2),
                         [([a], [t, a]) for a in range(4) for t in range(4)])

    def test_who_and_wait_do_not_matter(self):
        paper = [(0, 0, ("same", mine("a"), ONE), "nobody", BELOW), (0, 0, YES, "", NOUGHT)]
        self.assertEqual(entry_worths(SHORT, LONG, paper, 0), [([1], [t, a]) for t in range(4) for a in range(4)])
        self.assertEqual(len(entry_worths(SHORT, LONG, paper, 1)), 48)

    def test_no_boxes(self):
        nothing = program_of([], [], [END])
        paper = [(0, 0, NO, "end", NOUGHT), (0, 0, YES, "end", NOUGHT), (0, 0, YES, "end", NOUGHT)]
        self.assertEqual([entry_worths(nothing, nothing, paper, number) for number in range(3)], [[], [([], [])], []])

    def test_by_chance(self):
        dice = random.Random(19)
        for many in range(60):
            one, other, paper = some_paper(dice)
            for number, entry in enumerate(paper):
                due = [(first, second) for first in all_worths(one) for second in all_worths(other)
                       if entry_counting(one, other, paper, entry[0], entry[1], first, second) == number]
                self.assertEqual(entry_worths(one, other, paper, number), due)

    def test_lists_are_left_and_told_anew(self):
        one, other, paper = copy.deepcopy((SHORT, LONG, GOOD))
        for number in range(len(paper)):
            told = entry_worths(one, other, paper, number)
            due = copy.deepcopy(told)
            self.assertEqual((one, other, paper), (SHORT, LONG, GOOD))
            told[0][0].append(9)
            told[0][1][0] = 9
            self.assertEqual(told[1:], due[1:])
            told.pop()
            self.assertEqual(entry_worths(one, other, paper, number), due)
            self.assertIs(paper_shows(one, other, paper), True)
            self.assertEqual((one, other, paper), (SHORT, LONG, GOOD))


class ByChance(unittest.TestCase):
    def let_by(self, one, other, paper):
        answer = paper_shows(one, other, paper)
        self.assertIs(answer, shows_as_told(one, other, paper))
        self.assertIs(paper_shows(other, one, turned_about(paper)), answer)
        if answer:
            for inputs in every_input(one):
                self.assertFalse(walk_as_told(one, other, inputs)[0])
        return answer

    def test_papers_of_any_entries(self):
        dice = random.Random(18)
        found = [self.let_by(*some_paper(dice)) for many in range(300)]
        self.assertGreater(found.count(False), 200)

    def test_papers_that_are_told_with_one_thing_changed(self):
        dice, found = random.Random(181), []
        while len(found) < 400:
            one, other = some_pair(dice)
            answer, paper = likeness(one, other)
            if answer == "paper" and len(paper) < 25 and len(all_worths(one)) * len(all_worths(other)) < 60:
                self.assertTrue(self.let_by(one, other, paper))
                found.extend([self.let_by(one, other, some_change(dice, one, other, paper)) for many in range(3)])
        self.assertGreater(min(found.count(True), found.count(False)), 80)


class Bounds(unittest.TestCase):
    def test_three_thousand_entries_at_four_thousand_worths_in_good_time(self):
        boxes = [("a", 9), ("b", 7)]
        many = 38
        nodes = [("put", "a", ("plus", A, B), (at + 1) % many) for at in range(many)] + [("say", A, 0), END]
        program = program_of(boxes, ["a", "b"], nodes)
        some = ("not", ("both", ("under", ("plus", mine("a"), yours("b")), TWO), ("under", mine("b"), yours("a"))))
        places = [(p, q) for p in range(many) for q in range(many)]
        paper = [(p, q, some, "both", NOUGHT) for p, q in places] + [(p, q, YES, "both", ONE) for p, q in places]
        paper.extend([(0, 0, YES, "end", BELOW)] * (3000 - len(paper)))
        self.assertEqual((len(paper), len(all_worths(program)) ** 2), (3000, 3969))
        before = copy.deepcopy((program, paper))
        begun = time.perf_counter()
        self.assertIs(paper_shows(program, program, paper), True)
        self.assertIs(paper_shows(program, program, paper[::-1]), False)
        self.assertEqual(len(entry_worths(program, program, paper, 1443)), 3969 - len(
            entry_worths(program, program, paper, 2887)))
        self.assertLess(time.perf_counter() - begun, 60)
        self.assertEqual((program, paper), before)

    def test_twenty_within_one_another(self):
        deep, sunk = SAME, ("number", 6)
        for at in range(9):
            deep, sunk = ("not", ("both", YES, deep)), ("less", ("plus", sunk, mine("a")), mine("a"))
        for program in (SHORT, LONG):
            paper = [(0, 0, ("not", deep), "end", sunk)]
            ended = program_of(program[0], ["a"], [END])
            self.assertIs(paper_shows(ended, ended, paper), True)
            self.assertIs(paper_shows(ended, ended, [(0, 0, deep, "end", sunk)]), False)
            self.assertIs(paper_shows(ended, ended, [(0, 0, ("not", deep), "end", ("less", sunk, ("number", 7)))]), False)

    def test_one_program_has_nearly_all_the_worths(self):
        boxes = [("a", 16), ("b", 16), ("c", 15), ("d", 1)]
        nodes = [("put", "b", ("less", B, ONE), 1), ("test", ("same", B, NOUGHT), 2, 0), ("say", NOUGHT, 3), END]
        one, other = program_of(boxes, [], nodes), program_of([], [], [("say", NOUGHT, 1), END])
        wait = ("less", ("number", 40), ("plus", ("number", 0), ("plus", NOUGHT, NOUGHT)))
        paper = [(0, 0, ("same", mine("b"), NOUGHT), "mine", ("number", 33)),
                 (0, 0, YES, "mine", ("plus", mine("b"), mine("b"))),
                 (1, 0, YES, "mine", ("plus", ("plus", mine("b"), mine("b")), ONE)),
                 (2, 0, YES, "both", NOUGHT), (3, 1, YES, "end", wait)]
        begun = time.perf_counter()
        self.assertIs(paper_shows(one, other, paper), True)
        self.assertIs(paper_shows(one, other, [(0, 0, YES, "mine", ("number", 31))] + paper), False)
        self.assertEqual(len(entry_worths(one, other, paper, 1)), 16 * 15 * 15)
        self.assertLess(time.perf_counter() - begun, 20)


if __name__ == "__main__":
    unittest.main()
