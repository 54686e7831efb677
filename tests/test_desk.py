"""[2], [3], [46], [47]: the desk."""

import random
import unittest

from helper import some_pair
from twinwalk.desk import Desk
from twinwalk.errors import NoChange, NoForm, NoNode, NoneYet, NoPair, NoPicks, NoProgram, NoRow, NoWorths, TooMany
from twinwalk.findings import likeness
from twinwalk.makeovers import exchanged_puts, fitted_program, split_node, told_over
from twinwalk.paying import steps_told
from twinwalk.picks import within_told
from twinwalk.runs import run_of
from twinwalk.texts import read_program, written_text

COUNTING = ["box a 4", "box b 3", "input a", "test a<3 1 3", "say (a-2) 2", "put a (a+1) 0", "end"]
ROUND = ["box a 4", "box b 3", "input a", "say (0-a) 1", "say 7 1"]
PICKED = ["box a 4", "input a", "pick a 1", "say (a-1) 2", "end"]
FIXED = ["box a 4", "input a", "say (a-1) 1", "end"]
PUTS = ["box a 4", "box b 3", "input a", "put a (a+1) 1", "put b 2 2", "say (a-b) 3", "end"]
BARE = ["end"]
ASKED = ["run 1", "run", "like", "steps", "within", "split 0", "turn", "run 1", "like", "steps", "within", "turn", "run 2", "like",
         "one", "like", "run 0", "other", "like", "fit", "like"]


def rows_told(desk, rows):
    desk.say("clear")
    for row in rows:
        assert desk.say("row " + row) == "ok"


def given(one=None, other=None):
    """A desk that was told these programs."""
    desk = Desk()
    for rows, word in ((other, "other"), (one, "one")):
        if rows is not None:
            rows_told(desk, rows)
            desk.say(word)
    return desk


def answers(desk, rows):
    """The answers to the rows, or the names of what they are refused with."""
    told = []
    for row in rows:
        try:
            told.append(desk.say(row))
        except ValueError as error:
            told.append(error.__class__.__name__)
    return told


class Says(unittest.TestCase):
    def says(self, desk, row, due):
        told = desk.say(row)
        self.assertIs(type(told), str)
        self.assertEqual(told, due)

    def refused(self, desk, error, row):
        with self.assertRaises(error) as caught:
            desk.say(row)
        self.assertIs(type(caught.exception), error)

    def test_rows(self):
        desk = Desk()
        for row in ("row end", "row ", "row  ", "row row", "row anything ~ at all", "row \t", "row \u00e4"):
            self.says(desk, row, "ok")
        self.refused(desk, NoRow, "one")
        self.says(desk, "clear", "ok")
        self.refused(desk, NoRow, "one")
        self.says(desk, "row end", "ok")
        self.says(desk, "one", "nodes 1")
        self.says(desk, "row end", "ok")
        self.says(desk, "one", "nodes 2")
        self.says(desk, "other", "nodes 2")
        self.says(desk, "clear", "ok")
        self.says(desk, "run", "ends")
        self.refused(desk, NoRow, "other")
        self.says(desk, "like", "like 1")

    def test_rows_as_they_are_told(self):
        desk = Desk()
        for row in ("row box a 2", "row  end"):
            self.says(desk, row, "ok")
        self.refused(desk, NoRow, "one")
        desk = Desk()
        self.says(desk, "row ", "ok")
        self.refused(desk, NoRow, "one")

    def test_runs(self):
        desk = given(COUNTING)
        for row, due in (("run 0", "-2 -1 0 ends"), ("run 1", "-1 0 ends"), ("run 2", "0 ends"), ("run 3", "ends")):
            self.says(desk, row, due)
        desk = given(ROUND)
        for row, due in (("run 0", "0 round 7"), ("run 3", "-3 round 7")):
            self.says(desk, row, due)
        self.says(given(["box a 2", "say a 1", "test yes 1 1"]), "run", "0 round")
        self.says(given(["test yes 0 0"]), "run", "round")
        self.says(given(["say (0-1) 1", "say 2 0"]), "run", "round -1 2")
        self.says(given(BARE), "run", "ends")
        self.says(given(["box a 999999", "box b 2", "input b", "input a", "say (a+b) 1", "end"]), "run 1 999998", "999999 ends")

    def test_like(self):
        self.says(given(FIXED, FIXED), "like", "like 8")
        self.says(given(BARE, BARE), "like", "like 1")
        self.says(given(FIXED, ["box a 4", "input a", "test a<2 1 2", "say (a-1) 3", "say a 3", "end"]), "like", "parted 2")
        self.says(given(BARE, ["say 1 0"]), "like", "parted")
        two = ["box a 2", "box b 2", "input b", "input a"]
        self.says(given(two + ["end"], two + ["test a<b 1 2", "say 1 2", "end"]), "like", "parted 1 0")

    def test_steps(self):
        self.says(given(FIXED, FIXED), "steps", "no more")
        slow = FIXED[:2] + ["test a<2 2 1", "test yes 2 2", "say (a-1) 3", "end"]
        self.says(given(slow, FIXED), "steps", "no more")
        self.says(given(FIXED, slow), "steps", "more 0")
        self.says(given(FIXED[:2] + ["test yes 1 1", "say (a-1) 2", "end"], slow), "steps", "more 2")
        self.says(given(FIXED, COUNTING[:1] + COUNTING[2:3] + ["say (a-1) 1", "say 1 2", "end"]), "steps", "parted 0")
        self.says(given(BARE, ["say 1 0"]), "steps", "parted")
        self.says(given(BARE, ["test yes 1 1", "end"]), "steps", "more")

    def test_within(self):
        self.says(given(FIXED, FIXED), "within", "within")
        self.says(given(FIXED, PICKED), "within", "within")
        self.says(given(PICKED, FIXED), "within", "without 0 : 0 ends")
        self.says(given(["say 1 0"], ["say 1 1", "say 1 2", "say 2 0"]), "within", "without : 1 1 1 said")
        self.says(given(BARE, ["say 1 0"]), "within", "without : ends")
        self.says(given(["test yes 0 0"], BARE), "within", "without : still")
        two = ["box a 2", "box b 2", "input b", "input a"]
        self.says(given(two + ["test a<b 1 2", "say (a-b) 2", "end"], two + ["end"]), "within", "without 1 0 : -1 ends")

    def test_made_over(self):
        desk, program = given(COUNTING), read_program("\n".join(COUNTING))
        for row, made in (("split 0", split_node), ("split 0 2", split_node), ("split 3 0 0 1", split_node),
                          ("over 0 2", told_over), ("over 3 8", told_over), ("fit", fitted_program)):
            numbers = [int(word) for word in row.split(" ")[1:]]
            told = (numbers[0], numbers[1:]) if made == split_node else tuple(numbers)
            new = made(program, *told)[0]
            self.says(desk, row, f"nodes {len(new[2])}")
            self.says(desk, "like", f"like {len(likeness(program, new)[1])}")
            self.says(desk, "within", "within")
            self.says(desk, "run 2", "0 ends")
        desk = given(PUTS)
        self.says(desk, "exchange 0", "nodes 4")
        self.says(desk, "like", "like 16")
        self.says(desk, "turn", "ok")
        self.says(desk, "exchange 0", "nodes 4")
        self.says(desk, "run 3", "-2 ends")
        desk = given(["box a 2", "input a", "put a a 1", "say a 2", "end"])
        self.says(desk, "fit", "nodes 2")
        self.says(desk, "steps", "no more")
        self.says(desk, "turn", "ok")
        self.says(desk, "steps", "more 0")
        self.says(desk, "fit", "nodes 2")

    def test_the_first_number_of_a_split_is_the_node_alone(self):
        desk = given(["box a 4", "input a", "say a 1", "put a (a+1) 1"])
        for row, due in (("split 1", "like 8"), ("split 1 0", "like 12"), ("split 1 0 1", "like 8"), ("split 1 1", "like 12")):
            self.says(desk, row, "nodes 3")
            self.says(desk, "like", due)

    def test_the_made_over_program_is_the_second_one(self):
        desk = given(COUNTING)
        self.refused(desk, NoneYet, "like")
        self.says(desk, "over 1 8", "nodes 32")
        self.says(desk, "turn", "ok")
        self.says(desk, "over 9 2", "nodes 64")
        self.says(desk, "turn", "ok")
        self.says(desk, "split 63", "nodes 65")

    def test_turn(self):
        desk = given(COUNTING, ROUND)
        self.says(desk, "run 1", "-1 0 ends")
        self.says(desk, "turn", "ok")
        self.says(desk, "run 1", "-1 round 7")
        self.says(desk, "turn", "ok")
        self.says(desk, "run 1", "-1 0 ends")
        self.says(given(PICKED, FIXED), "turn", "ok")

    def test_one_and_other_read_the_rows_anew(self):
        desk = Desk()
        rows_told(desk, FIXED[:3])
        self.refused(desk, NoProgram, "one")
        self.says(desk, "row end", "ok")
        self.says(desk, "one", "nodes 2")
        self.says(desk, "row say 9 0", "ok")
        self.says(desk, "run 1", "0 ends")
        self.says(desk, "other", "nodes 3")
        self.says(desk, "like", "like 8")
        self.says(desk, "one", "nodes 3")
        self.says(desk, "row nothing", "ok")
        self.refused(desk, NoRow, "one")
        self.says(desk, "run 1", "0 ends")

    def test_no_form(self):
        for desk in (Desk(), given(COUNTING), given(PICKED, FIXED), given(PUTS, PUTS)):
            for row in ("", " ", "row", "row\n", "row a\n", "row a\nb", "\n", "rows", "Row a", " row a", "rowa", "clear ", " clear",
                        "clear 1", "Clear", "one ", "one 1", "other 1", " other", "other ", "turn ", "turn 0", "like ", "like 1",
                        "likes", "steps 1", "steps ", "within ", "within 0", "fit 1", "fit ", "run ", "run  1", "run 1 ", "run 1  2",
                        "run -1", "run +1", "run 01", "run 00", "run a", "run 1.0", "run 1000000", "run 0000001", "run \u0661",
                        "run 1\t2", "run\t1", "run1", "run 1\n", "one\n", "fit\n", "clear\n", "split", "split ", "split a", "split 1 ",
                        "split -1", "split 01", "split 0 1000000", "over", "over 1", "over 1 ", "over 0 1", "over 0 9", "over 0 08",
                        "over 0 0", "over 0 10", "over 0 22", "over 0 2 2", "over 00 2", "over a 2", "over 0  2", "over -1 2",
                        "over 1000000 2", "exchange", "exchange ", "exchange 0 1", "exchange 01", "exchange -1", "exchange a",
                        "exchange 1234567", "stop", "help", "end", "box a 2", "run 1 ends", "like\u00a0", "run \u00b2"):
                with self.subTest(row=row):
                    self.refused(desk, NoForm, row)

    def test_six_figures(self):
        desk = given(FIXED)
        self.refused(desk, NoWorths, "run 999999")
        self.refused(desk, NoNode, "split 999999")
        self.refused(desk, NoNode, "split 0 999999")
        self.refused(desk, NoNode, "over 999999 8")
        self.refused(desk, NoNode, "exchange 999999")
        for row in ("run 1000000", "split 1000000", "split 0 1000000", "over 1000000 8", "exchange 1000000"):
            self.refused(desk, NoForm, row)

    def test_none_yet(self):
        desk = Desk()
        for row in ("run", "run 1 2 3", "like", "steps", "within", "turn", "split 0", "split 9 9", "over 0 2", "exchange 0", "fit"):
            self.refused(desk, NoneYet, row)
        desk = given(None, PICKED)
        for row in ("run", "like", "steps", "within", "turn", "split 0", "over 0 2", "exchange 0", "fit"):
            self.refused(desk, NoneYet, row)
        desk = given(PICKED)
        for row in ("like", "steps", "within", "turn"):
            self.refused(desk, NoneYet, row)

    def test_no_picks(self):
        desk = given(PICKED, FIXED)
        for row in ("run", "run 1", "run 9", "like", "steps", "split 0", "split 9", "over 0 2", "over 9 2", "exchange 0",
                    "exchange 9", "fit"):
            self.refused(desk, NoPicks, row)
        self.assertEqual(desk.say("turn"), "ok")
        for row in ("like", "steps"):
            self.refused(desk, NoPicks, row)
        self.says(desk, "run 1", "0 ends")
        self.says(desk, "within", "within")
        self.says(desk, "fit", "nodes 2")
        self.says(desk, "like", "like 8")

    def test_no_picks_ahead_of_no_pair(self):
        desk = given(PICKED, BARE)
        for row in ("like", "steps"):
            self.refused(desk, NoPicks, row)
        self.refused(desk, NoPair, "within")

    def test_what_the_stages_refuse(self):
        desk = given(COUNTING, BARE)
        for row in ("like", "steps", "within"):
            self.refused(desk, NoPair, row)
        for row in ("run", "run 4", "run 1 1", "run 999999"):
            self.refused(desk, NoWorths, row)
        for row in ("split 4", "split 0 4", "split 0 0 1 4 2", "over 4 2", "exchange 4"):
            self.refused(desk, NoNode, row)
        for row in ("exchange 0", "exchange 1", "exchange 2", "exchange 3"):
            self.refused(desk, NoChange, row)
        many = ["box a 16", "box b 16", "box c 15", "input a", "input b", "input c", "end"]
        desk = given(many, many)
        for row in ("like", "steps", "within"):
            self.refused(desk, TooMany, row)
        self.refused(given(PICKED), NoneYet, "like")

    def test_what_reading_refuses(self):
        desk = given(COUNTING, FIXED)
        for rows, error in (([], NoRow), ([""], NoRow), (["end", ""], NoRow), (["no"], NoRow), (["say a 0"], NoProgram),
                            (["box a 2", "box a 2", "no"], NoRow), (["box a 2"], NoProgram)):
            rows_told(desk, rows)
            for word in ("one", "other"):
                self.refused(desk, error, word)
            self.says(desk, "run 1", "-1 0 ends")
            self.says(desk, "turn", "ok")
            self.says(desk, "run 1", "0 ends")
            self.says(desk, "turn", "ok")


class Kept(unittest.TestCase):
    def test_a_refusal_changes_nothing(self):
        refused = ["row", "run 9 9", "run", "like 1", "split 99", "split 0 99", "over 99 2", "over 0 9", "exchange 3", "exchange 99",
                   "row a\nb", "clear ", "turn 1", ""]
        for one, other in ((None, None), (COUNTING, None), (None, COUNTING), (COUNTING, FIXED), (PICKED, FIXED), (FIXED, PICKED),
                           (BARE, COUNTING), (PUTS, PUTS)):
            for row in refused + ["one", "other", "like", "steps", "within", "turn", "fit", "over 0 2"]:
                desk, asked = given(one, other), given(one, other)
                rows_told(desk, ["box a 2", "nothing"])
                rows_told(asked, ["box a 2", "nothing"])
                try:
                    asked.say(row)
                except ValueError:
                    self.assertEqual(answers(asked, ASKED), answers(desk, ASKED))

    def test_desks_are_by_themselves(self):
        first, second = Desk(), Desk()
        rows_told(first, FIXED)
        self.assertRaises(NoRow, second.say, "one")
        self.assertEqual(first.say("one"), "nodes 2")
        self.assertRaises(NoneYet, second.say, "run 1")
        rows_told(second, COUNTING)
        self.assertEqual(second.say("one"), "nodes 4")
        self.assertEqual((first.say("run 1"), second.say("run 1")), ("0 ends", "-1 0 ends"))
        self.assertEqual(first.say("other"), "nodes 2")
        self.assertRaises(NoneYet, second.say, "like")

    def test_by_chance(self):
        """Answers as the stages tell them of programs that are written to a desk."""
        dice, found = random.Random(46), {"like": 0, "more": 0, "parted": 0, "without": 0, "within": 0}
        for many in range(120):
            one, other = some_pair(dice)
            desk = given(written_text(one).split("\n"), written_text(other).split("\n"))
            inputs = [dice.randrange(dict(one[0])[name]) for name in one[1]]
            ahead, around, steps = run_of(one, inputs)
            due = [str(number) for number in ahead] + (["ends"] if around is None else ["round"] + [str(n) for n in around])
            self.assertEqual(desk.say(" ".join(["run"] + [str(number) for number in inputs])), " ".join(due))
            told = [desk.say("like"), desk.say("steps"), desk.say("within")]
            for answer in told:
                found[answer.split(" ")[0]] = found.get(answer.split(" ")[0], 0) + 1
            alike, steps, within = likeness(one, other), steps_told(one, other), within_told(one, other)
            self.assertEqual(told[0].split(" "), ["like", str(len(alike[1]))] if alike[0] == "paper" else
                             ["parted"] + [str(number) for number in alike[1]])
            self.assertEqual(told[1], "no more" if steps[0] == "paper" else
                             " ".join([steps[0]] + [str(number) for number in steps[1]]))
            self.assertEqual(told[2], "within" if within[0] == "within" else
                             " ".join(["without"] + [str(n) for n in within[1]] + [":"] + [str(n) for n in within[2]] +
                                      [within[3]]))
            node = dice.randrange(len(one[2]))
            self.assertEqual(desk.say(f"over {node} 2"), f"nodes {2 * len(one[2])}")
            self.assertEqual(desk.say(f"split {node} {node}"), f"nodes {1 + len(one[2])}")
            self.assertEqual(desk.say("fit"), f"nodes {len(fitted_program(one)[0][2])}")
            try:
                new = exchanged_puts(one, node)[0]
                self.assertEqual(desk.say(f"exchange {node}"), f"nodes {len(new[2])}")
            except NoChange:
                self.assertRaises(NoChange, desk.say, f"exchange {node}")
        self.assertGreater(min(found.values()), 5)


if __name__ == "__main__":
    unittest.main()
