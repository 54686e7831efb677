"""[1], [2], [4] over the whole: made-over programs, papers, texts and the desk, one behind the other."""

import copy
import random
import time
import unittest

from helper import A, B, END, NOUGHT, ONE, TWO, YES, all_worths, more, some_pair
from twinwalk.between import runs_part
from twinwalk.desk import Desk
from twinwalk.errors import NoChange, TooMany
from twinwalk.findings import likeness
from twinwalk.lesser import entries_come_to, kept_paper, lesser_paper
from twinwalk.makeovers import exchanged_puts, fitted_program, split_node, told_over
from twinwalk.papers import paper_shows
from twinwalk.paying import steps_shown, steps_told
from twinwalk.picks import answers_show, within_told
from twinwalk.programs import program_of
from twinwalk.runs import every_input, run_of, said_in
from twinwalk.texts import read_program, written_text
from twinwalk.turns import put_behind, turned_paper

LOOP = program_of([("a", 6), ("n", 3)], ["a"], [("test", ("same", A, NOUGHT), 5, 1), ("say", ("less", A, TWO), 2),
                                                ("put", "n", more("n"), 3), ("put", "a", ("less", A, ONE), 4),
                                                ("put", "n", ("box", "n"), 0), END])


def made_overs(program):
    """All made-over programs of a kind each, with their papers."""
    told = [fitted_program(program)]
    for node in range(len(program[2])):
        told.extend([split_node(program, node, []), split_node(program, node, list(range(len(program[2])))),
                     told_over(program, node, 2)])
        try:
            told.append(exchanged_puts(program, node))
        except NoChange:
            pass
    return told


class Whole(unittest.TestCase):
    def alike(self, one, other):
        """Each way to tell that two programs are alike."""
        answer, paper = likeness(one, other)
        self.assertEqual(answer, "paper")
        self.assertIs(paper_shows(one, other, paper), True)
        self.assertIs(paper_shows(other, one, turned_paper(paper)), True)
        for first, second in ((one, other), (other, one)):
            told = within_told(first, second)
            self.assertEqual(told[0], "within")
            self.assertIs(answers_show(first, second, told[1]), True)
        for inputs in every_input(one):
            self.assertIs(runs_part(one, other, inputs), False)
            self.assertEqual(run_of(one, inputs)[1] is None, run_of(other, inputs)[1] is None)

    def test_made_over_programs_are_alike(self):
        for new, paper in made_overs(LOOP):
            self.alike(LOOP, new)
            self.assertIs(paper_shows(LOOP, new, paper), True)

    def test_the_fitted_one_takes_no_more_steps(self):
        new, paper = fitted_program(LOOP)
        told = steps_told(LOOP, new)
        self.assertEqual(told[0], "paper")
        self.assertIs(steps_shown(LOOP, new, told[1]), True)
        self.assertEqual(steps_told(new, LOOP), ("more", [1]))
        for inputs in every_input(LOOP):
            self.assertLessEqual(run_of(new, inputs)[2], run_of(LOOP, inputs)[2])

    def test_papers_put_behind_one_another(self):
        for first, paper in made_overs(LOOP)[:6]:
            for second, other_paper in made_overs(first)[:8]:
                told = put_behind(LOOP, first, second, paper, other_paper)
                self.assertIs(paper_shows(LOOP, second, told), True)
                back = put_behind(second, first, LOOP, turned_paper(other_paper), turned_paper(paper))
                self.assertIs(paper_shows(second, LOOP, back), True)
                aside = put_behind(first, LOOP, first, turned_paper(paper), paper)
                self.assertIs(paper_shows(first, first, aside), True)

    def test_papers_made_lesser_and_kept(self):
        for new, paper in made_overs(LOOP):
            for told in (paper, likeness(LOOP, new)[1]):
                lesser = lesser_paper(LOOP, new, told)
                kept = kept_paper(LOOP, new, lesser)
                self.assertEqual(entries_come_to(LOOP, new, kept), list(range(len(kept))))
                for shown in (lesser, kept, lesser_paper(LOOP, new, kept)):
                    self.assertIs(paper_shows(LOOP, new, shown), True)
                self.assertIs(paper_shows(LOOP, LOOP, put_behind(LOOP, new, LOOP, kept, turned_paper(lesser))), True)

    def test_written_read_and_run(self):
        for new, paper in made_overs(LOOP) + [(LOOP, [])]:
            again = read_program(written_text(new))
            for inputs in every_input(LOOP):
                self.assertEqual(run_of(again, inputs), run_of(new, inputs))
                self.assertEqual(run_of(again, inputs)[0], run_of(LOOP, inputs)[0])

    def test_the_desk_tells_the_same(self):
        desk = Desk()
        for row in written_text(LOOP).split("\n"):
            desk.say("row " + row)
        self.assertEqual(desk.say("one"), "nodes 6")
        for row, many in (("fit", 5), ("over 0 4", 24), ("split 4 3", 7), ("exchange 2", 6)):
            self.assertEqual(desk.say(row), f"nodes {many}")
            self.assertEqual(desk.say("like").split(" ")[0], "like")
            self.assertEqual(desk.say("within"), "within")
            self.assertEqual(desk.say("turn"), "ok")
            self.assertEqual(desk.say("run 4"), "2 1 0 -1 ends")
            self.assertEqual(desk.say("turn"), "ok")
        self.assertEqual((desk.say("fit"), desk.say("steps")), ("nodes 5", "no more"))

    def test_by_chance(self):
        dice = random.Random(47)
        for many in range(60):
            program = some_pair(dice)[0]
            if len(all_worths(program)) > 12:
                continue
            first, paper = dice.choice(made_overs(program))
            second, other_paper = dice.choice(made_overs(first))
            self.alike(program, second)
            self.assertIs(paper_shows(program, second, put_behind(program, first, second, paper, other_paper)), True)
            fitted = fitted_program(program)[0]
            told = steps_told(program, fitted)
            self.assertEqual((told[0], steps_shown(program, fitted, told[1])), ("paper", True))

    def test_just_one_is_told(self):
        dice, found = random.Random(4), []
        for many in range(100):
            one, other = some_pair(dice)
            answer, told = likeness(one, other)
            found.append(answer)
            self.assertEqual(answer == "parted", any(runs_part(one, other, inputs) for inputs in every_input(one)))
            for first, second in ((one, other), (other, one)):
                self.assertEqual(within_told(first, second)[0], "without" if answer == "parted" else "within")
                steps = steps_told(first, second)
                self.assertEqual(steps[0] == "parted", answer == "parted")
                if steps[0] == "paper":
                    for inputs in every_input(one):
                        ends = run_of(one, inputs)[1] is None
                        self.assertTrue(not ends or run_of(first, inputs)[2] >= run_of(second, inputs)[2])
        self.assertGreater(min(found.count("paper"), found.count("parted")), 20)

    def test_what_is_told_may_be_handed_in_though_it_be_greater(self):
        new = told_over(told_over(LOOP, 0, 8)[0], 13, 8)[0]
        self.assertEqual(len(new[2]), 384)
        begun = time.perf_counter()
        self.assertEqual(likeness(LOOP, new)[0], "paper")
        third, paper = fitted_program(new)
        self.assertIs(paper_shows(new, third, paper), True)
        self.assertEqual(read_program(written_text(third)), third)
        self.assertEqual(said_in(third, [5], 10 ** 4), [3, 2, 1, 0, -1])
        self.assertLess(time.perf_counter() - begun, 60)

    def test_nothing_that_is_told_is_kept(self):
        one, other = copy.deepcopy((LOOP, fitted_program(LOOP)[0]))
        asked = [lambda: likeness(one, other)[1], lambda: steps_told(one, other)[1], lambda: within_told(one, other)[1],
                 lambda: fitted_program(one)[0][2], lambda: fitted_program(one)[1], lambda: split_node(one, 0, [1])[0][0],
                 lambda: told_over(one, 0, 2)[0][1], lambda: exchanged_puts(one, 2)[0][2],
                 lambda: read_program(written_text(one))[2], lambda: run_of(one, [3])[0], lambda: every_input(one)]
        due = [copy.deepcopy(ask()) for ask in asked]
        for ask in asked:
            ask().clear()
        for told in every_input(one):
            told.append(9)
        self.assertEqual([ask() for ask in asked], due)
        self.assertEqual((one, other), (LOOP, fitted_program(LOOP)[0]))

    def test_what_is_handed_in_is_not_kept(self):
        boxes, inputs, nodes = [("a", 3)], ["a"], [("say", A, 1), END]
        program = program_of(boxes, inputs, nodes)
        new, paper = split_node(program, 0, [])
        program[0].append(("b", 2))
        program[2].clear()
        self.assertEqual(new, ([("a", 3)], ["a"], [("say", A, 1), END, ("say", A, 1)]))
        nodes[0] = ("say", B, 1)
        self.assertEqual(len(new[2]), 3)

    def test_bounds_in_good_time(self):
        boxes, names = [("a", 9), ("b", 7)], ["a", "b"]
        nodes = [("put", "a", more("a"), at + 1) for at in range(20)] + [("test", YES, at + 1, at + 1) for at in range(20, 38)]
        program = program_of(boxes, names, nodes + [("say", ("less", A, B), 39), END])
        begun = time.perf_counter()
        fitted, paper = fitted_program(program)
        self.assertIs(paper_shows(program, fitted, paper), True)
        self.assertRaises(TooMany, likeness, program, fitted)
        over, longer = told_over(fitted, 3, 8)
        self.assertIs(paper_shows(fitted, over, longer), True)
        told = put_behind(over, fitted, over, turned_paper(longer), longer)
        self.assertIs(paper_shows(over, over, told), True)
        self.assertEqual(len(lesser_paper(over, over, told)), 22)
        self.assertLess(time.perf_counter() - begun, 120)


if __name__ == "__main__":
    unittest.main()
