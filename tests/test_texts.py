"""[2], [3], [44], [45]: programs written as texts, and texts read as programs."""

import copy
import random
import re
import time
import unittest

from helper import A, B, END, NO, NOUGHT, ONE, TWO, YES, some_condition, some_pair, some_sum
from twinwalk.errors import NoProgram, NoRow
from twinwalk.makeovers import told_over
from twinwalk.picks import picked_program
from twinwalk.programs import program_of
from twinwalk.runs import every_input, run_of
from twinwalk.texts import read_program, written_text

WORDS = ["yes", "box", "input", "put", "say", "test", "pick", "end"]
GREAT = 10 ** 30 - 1


class Bad(Exception):
    pass


def parted(word, signs):
    """A word's two parts and the sign between, at the one place outside of all brackets where such a sign stands."""
    depth, found = 0, []
    for at, sign in enumerate(word):
        depth += (sign in "({") - (sign in ")}")
        if depth == 0 and sign in signs:
            found.append(at)
    if len(found) != 1:
        raise Bad
    return word[:found[0]], word[found[0]], word[found[0] + 1:]


def sum_as_told(word):
    if re.fullmatch("0|[1-9][0-9]{0,29}", word):
        return ("number", int(word))
    if re.fullmatch("[a-z]{1,8}", word):
        return ("box", word)
    if word[:1] != "(" or word[-1:] != ")":
        raise Bad
    first, sign, second = parted(word[1:-1], "+-")
    return ({"+": "plus", "-": "less"}[sign], sum_as_told(first), sum_as_told(second))


def condition_as_told(word):
    if word == "yes":
        return YES
    if word[:1] == "!":
        return ("not", condition_as_told(word[1:]))
    if word[:1] == "{" and word[-1:] == "}":
        first, sign, second = parted(word[1:-1], "&")
        return ("both", condition_as_told(first), condition_as_told(second))
    first, sign, second = parted(word, "=<")
    return ({"=": "same", "<": "under"}[sign], sum_as_told(first), sum_as_told(second))


def number_as_told(word):
    if not re.fullmatch("0|[1-9][0-9]{0,29}", word):
        raise Bad
    return int(word)


def name_as_told(word):
    if not re.fullmatch("[a-z]{1,8}", word):
        raise Bad
    return word


def row_as_told(row):
    """[44] word by word."""
    words = row.split(" ")
    kinds = {"box": (name_as_told, number_as_told), "input": (name_as_told,),
             "put": (name_as_told, sum_as_told, number_as_told), "say": (sum_as_told, number_as_told),
             "test": (condition_as_told, number_as_told, number_as_told), "pick": (name_as_told, number_as_told),
             "end": ()}.get(words[0])
    if kinds is None or len(kinds) != len(words) - 1:
        raise Bad
    return (words[0],) + tuple(kind(word) for kind, word in zip(kinds, words[1:]))


class Written(unittest.TestCase):
    def same(self, program, text):
        before = copy.deepcopy(program)
        told = written_text(program)
        self.assertEqual(program, before)
        self.assertIs(type(told), str)
        self.assertEqual(told, text)
        self.read(text, program)

    def read(self, text, program):
        told = read_program(text)
        self.assertEqual(told, program)
        self.assertEqual([type(told)] + [type(part) for part in told], [tuple, list, list, list])
        self.assertTrue(all(type(row) is tuple for row in told[0] + told[2]))
        self.assertEqual(written_text(told), text)
        for part in told:
            part.clear()
        self.assertEqual(read_program(text), program)

    def test_every_kind_of_row(self):
        program = picked_program([("a", 4), ("bcdefghi", 16)], ["bcdefghi", "a"],
                                 [("put", "a", ("plus", A, ONE), 1), ("say", ("less", NOUGHT, A), 2),
                                  ("test", ("both", ("under", A, TWO), ("not", YES)), 3, 4), ("pick", "a", 0), END])
        self.same(program, "box a 4\nbox bcdefghi 16\ninput bcdefghi\ninput a\nput a (a+1) 1\nsay (0-a) 2\n"
                           "test {a<2&!yes} 3 4\npick a 0\nend")
        self.same(program_of([], [], [END]), "end")
        self.same(program_of([("z", 1)], [], [END, END]), "box z 1\nend\nend")

    def test_sums(self):
        for told, word in ((NOUGHT, "0"), (("number", 10), "10"), (("number", GREAT), "9" * 30), (A, "a"),
                           (("plus", A, B), "(a+b)"), (("less", A, B), "(a-b)"),
                           (("plus", ("less", A, ONE), ("plus", B, B)), "((a-1)+(b+b))"),
                           (("less", ("less", NOUGHT, A), ("less", A, ("plus", ONE, TWO))), "((0-a)-(a-(1+2)))")):
            self.same(program_of([("a", 2), ("b", 2)], [], [("say", told, 0)]), f"box a 2\nbox b 2\nsay {word} 0")
            self.same(program_of([("a", 2), ("b", 2)], [], [("put", "b", told, 0)]), f"box a 2\nbox b 2\nput b {word} 0")

    def test_conditions(self):
        for told, word in ((YES, "yes"), (NO, "!yes"), (("not", NO), "!!yes"), (("same", A, ONE), "a=1"),
                           (("under", ("plus", A, ONE), ("less", A, A)), "(a+1)<(a-a)"),
                           (("both", YES, YES), "{yes&yes}"), (("not", ("same", A, A)), "!a=a"),
                           (("both", ("not", ("both", YES, ("same", A, ONE))), ("not", ("not", ("under", ONE, A)))),
                            "{!{yes&a=1}&!!1<a}")):
            self.same(program_of([("a", 2)], [], [("test", told, 0, 0)]), f"box a 2\ntest {word} 0 0")

    def test_boxes_that_are_called_like_words(self):
        for name in WORDS:
            box = ("box", name)
            program = picked_program([(name, 3)], [name], [("put", name, box, 1), ("say", ("plus", box, box), 2),
                                                           ("test", ("same", box, box), 3, 4), ("pick", name, 0),
                                                           ("test", ("both", YES, ("under", box, ONE)), 0, 5), END])
            self.same(program, f"box {name} 3\ninput {name}\nput {name} {name} 1\nsay ({name}+{name}) 2\n"
                               f"test {name}={name} 3 4\npick {name} 0\ntest {{yes&{name}<1}} 0 5\nend")
        box = ("box", "yes")
        self.same(program_of([("yes", 2)], [], [("test", ("both", ("not", ("same", box, box)), ("not", YES)), 0, 0)]),
                  "box yes 2\ntest {!yes=yes&!yes} 0 0")
        self.same(program_of([("yes", 2)], [], [("test", ("both", ("under", ONE, box), YES), 0, 0)]),
                  "box yes 2\ntest {1<yes&yes} 0 0")
        self.same(program_of([("yes", 2)], [], [("test", YES, 0, 0)]), "box yes 2\ntest yes 0 0")

    def test_twenty_within_one_another(self):
        told, word, held, held_word = A, "a", YES, "yes"
        for at in range(19):
            told, word = (("plus", told, ONE), f"({word}+1)") if at % 2 else (("less", TWO, told), f"(2-{word})")
            held, held_word = (("not", held), f"!{held_word}") if at % 3 else (("both", held, YES), f"{{{held_word}&yes}}")
        self.same(program_of([("a", 2)], [], [("say", told, 1), ("test", held, 0, 0)]),
                  f"box a 2\nsay {word} 1\ntest {held_word} 0 0")

    def test_by_chance(self):
        dice = random.Random(44)
        for many in range(300):
            program = some_pair(dice)[0]
            text = written_text(program)
            self.read(text, program)
            again = read_program(text)
            for inputs in every_input(program)[:3]:
                self.assertEqual(run_of(again, inputs), run_of(program, inputs))
        for many in range(300):
            names = dice.sample(WORDS + ["a", "zzzzzzzz"], dice.randrange(1, 5))
            boxes = [("box", name) for name in names]
            nodes = [("say", some_sum(dice, boxes, 5), 0), ("test", some_condition(dice, boxes, 5), 1, 2),
                     ("put", names[0], some_sum(dice, boxes, 5), 3), ("pick", names[-1], 0)]
            dice.shuffle(nodes)
            program = picked_program([(name, dice.randrange(1, 17)) for name in names],
                                     dice.sample(names, dice.randrange(len(names) + 1)), nodes)
            self.read(written_text(program), program)

    def test_told_over_programs(self):
        nodes = [("test", ("under", A, B), (at * 7) % 40, (at * 3) % 40) for at in range(38)] + [("say", A, 0), END]
        program = program_of([("a", 4), ("b", 4)], ["a"], nodes)
        new = told_over(program, 5, 8)[0]
        text = written_text(new)
        self.assertEqual(len(text.split("\n")), 3 + 320)
        self.read(text, new)


class Refused(unittest.TestCase):
    def no_row(self, *rows):
        self.assertRaises(NoRow, read_program, "\n".join(rows))

    def test_texts_without_signs(self):
        self.no_row("")
        self.no_row("", "")
        self.no_row("end", "")
        self.no_row("", "end")
        self.no_row("box a 2", "", "end")
        self.no_row("end", "", "end")

    def test_blanks(self):
        for row in ("end", "say 1 0", "put a 1 0", "test yes 0 0", "pick a 0"):
            self.assertEqual(len(read_program("box a 2\n" + row)[2]), 1)
            for wrong in (" " + row, row + " ", row.replace(" ", "  ", 1), row.replace(" ", "\t", 1),
                          row.replace(" ", "\u00a0", 1), row + "\r", "\t" + row, row.replace(" ", "", 1), row.replace(" ", "_")):
                if wrong != row:
                    self.no_row("box a 2", wrong)
        for row in ("box  a 2", "box a  2", " box a 2", "box a 2 ", "input  a", "input a ", "box a", "box 2", "boxa 2", "input"):
            self.no_row(row, "end")

    def test_numbers_of_words(self):
        for row in ("end 0", "say 1", "say 1 0 0", "say", "put a 1", "put a 1 0 0", "test yes 0", "test yes 0 0 0", "pick a",
                    "pick a 0 0", "box a", "box a 2 2", "input", "input a a", "row", "End", "END", "ends", "go 0", "0", "#"):
            self.no_row(row)
            self.no_row("box a 2", row)

    def test_numbers(self):
        for word in ("00", "01", "+1", "-1", "1.0", "1e3", "1_0", "0x1", "", "9" * 31, "1" + "0" * 30, "\u0661", "\u00b2",
                     "\uff11", "1a", "a1", "(1)", "()", "one", "1+1"):
            self.no_row(f"box a {word}", "end")
            for row in ("say 1 {}", "test yes {} 0", "test yes 0 {}", "put a 1 {}", "pick a {}"):
                self.no_row("box a 2", row.replace("{}", word))
        for word in ("00", "01", "+1", "-1", "1.0", "1_0", "", "9" * 31, "\u0661", "\u00b2", "1a", "a1", "(1)", "()", "1+1"):
            self.no_row(f"say {word} 0")
            self.no_row(f"say (1+{word}) 0")
            self.no_row(f"test {word}=1 0 0")
            self.no_row(f"test 1<{word} 0 0")

    def test_thirty_figures(self):
        self.assertEqual(read_program(f"say {'9' * 30} 0")[2], [("say", ("number", GREAT), 0)])
        self.assertEqual(read_program(f"box a {'1' + '0' * 29}\nend")[0], [("a", 10 ** 29)])
        self.assertRaises(NoProgram, read_program, f"say 0 {'9' * 30}")
        self.no_row(f"say {'1' + '0' * 30} 0")
        self.no_row(f"say 0 {'9' * 31}")
        self.no_row(f"say (1-{'9' * 31}) 0")
        self.no_row(f"say {'0' * 31} 0")

    def test_names(self):
        for word in ("A", "aB", "a1", "abcdefghi", "a_b", "", "1", "(a)", "a-b", "\u00e4", "\u017f", "yes!", "a+b"):
            self.no_row(f"box {word} 2", "end")
            self.no_row(f"input {word}", "end")
            self.no_row(f"put {word} 1 0")
            self.no_row(f"pick {word} 0")
        for word in ("A", "a1", "abcdefghi", "a_b", "\u00e4", "(a)", "(abcdefghi+1)", "(a+B)"):
            self.no_row(f"say {word} 0")
            self.no_row(f"test {word}=1 0 0")

    def test_sums_of_no_form(self):
        for word in ("(", ")", "()", "(1", "1)", "(1+1", "1+1)", "((1+1)", "(1+1))", "(1+)", "(+1)", "(1+1+1)", "(1*1)", "(1/1)",
                     "((1+1))", "(1=1)", "{1+1}", "(1+(1)", "(1+1)+1", "1-1", "(1--1)", "(1+-1)", "+", "-", "(-)", "(1,1)",
                     "yes=yes", "!1", "!yes", "(1+!1)", "{yes&yes}", "(a+b)c", "(1 + 1)", "(1+1)2", "((1+1)(1+1))", "[1+1]"):
            self.no_row(f"say {word} 0")
            self.no_row(f"put a {word} 0")
            self.no_row(f"say ({word}+2) 0")
            self.no_row(f"say (2-{word}) 0")

    def test_conditions_of_no_form(self):
        for word in ("no", "Yes", "yess", "ye", "1", "a", "(1+1)", "1=", "=1", "=", "<", "1=1=1", "1<1=1", "1>1", "1<=1", "1==1",
                     "!", "!!", "!1", "!a", "yes!", "{}", "{yes}", "{yes&}", "{&yes}", "{yes&yes", "yes&yes}", "yes&yes",
                     "{yes&yes&yes}", "{yes|yes}", "{{yes&yes}", "{yes&yes}}", "(yes)", "(yes&yes)", "{yes+yes}", "{1&1}", "{a&yes}",
                     "(1=1)", "!(1=1)", "1=!1", "1={1&1}", "{1=1&1}", "yes=", "=yes", "yesyes", "!{yes&yes}yes", "{yes&yes}=1", ""):
            self.no_row(f"test {word} 0 0")
            self.no_row(f"test !{word} 0 0")
            self.no_row(f"test {{{word}&yes}} 0 0")
            self.no_row(f"test {{yes&{word}}} 0 0")

    def test_brackets_a_thousand_deep(self):
        for word in ("(" * 1500, "(" * 1500 + "1", "(1+" * 1000 + "1" + ")" * 999, ")" * 1500):
            self.no_row(f"say {word} 0")
            self.no_row(f"test {word}=1 0 0")
        for word in ("!" * 3000, "{" * 3000, "!" * 3000 + "yes!", "{yes&" * 500 + "yes" + "}" * 499, "!{" * 1500 + "yes"):
            self.no_row(f"test {word} 0 0")

    def test_the_order_of_rows(self):
        self.no_row("input a", "box a 2", "end")
        self.no_row("box a 2", "input a", "box b 2", "end")
        self.no_row("end", "box a 2")
        self.no_row("box a 2", "end", "box b 2")
        self.no_row("end", "input a")
        self.no_row("box a 2", "end", "input a")
        self.no_row("box a 2", "say a 0", "input a", "end")

    def test_no_row_ahead_of_no_program(self):
        for rows in (["box a 0", "box a 0", "input b", "say c 9", "no"], ["say a 9", "END"], ["say a 9", ""],
                     ["box a 2", "box a 2", "end", "box a 2"], ["input a", "box b 2"], ["pick a 4", "end 1"]):
            self.no_row(*rows)

    def test_no_program(self):
        for rows in (["box a 0", "end"], ["box a 2", "box a 2", "end"], ["box a 2", "box a 3", "end"],
                     ["box a 2", "input b", "end"], ["input a", "end"], ["box a 2", "input a", "input a", "end"],
                     ["say 1 1"], ["say 1 2", "end"], ["put a 1 0"], ["box a 2", "put b 1 0"], ["box a 2", "put a b 0"],
                     ["say b 0"], ["say (1+(2-b)) 0"], ["test b=1 0 0"], ["test 1<(b+1) 0 0"], ["test !{yes&!b=b} 0 0"],
                     ["test yes 0 1"], ["test yes 1 0"], ["pick a 0"], ["box a 2", "pick b 0"], ["box a 2", "pick a 1"],
                     ["box a 2"], ["box a 2", "input a"], ["test yes=yes 0 0"],
                     ["box a 2", "box b 2", "box c 2", "box d 2", "box e 2", "box a 2", "end"]):
            with self.subTest(rows=rows):
                self.assertRaises(NoProgram, read_program, "\n".join(rows))

    def test_by_chance(self):
        """Rows with some signs changed, as a reader tells that parts words by their brackets."""
        dice, found = random.Random(45), []
        signs = "abyes019 (){}+-=<&!" + "x"
        for many in range(6000):
            boxes = [("box", name) for name in ("a", "b", "yes")]
            row = list(dice.choice((
                written_text(([], [], [("say", some_sum(dice, boxes, 2), 0)])),
                written_text(([], [], [("test", some_condition(dice, boxes, 3), 0, 1)])),
                "put a (b-1) 0", "pick yes 10", "box abcdefgh 10", "input a", "end")))
            for change in range(dice.randrange(4)):
                at = dice.randrange(len(row))
                row[at:at + dice.randrange(2)] = dice.choice(("", dice.choice(signs), dice.choice(signs)))
                row = row or ["e"]
            row = "".join(row)
            try:
                told = row_as_told(row)
            except Bad:
                self.assertRaises(NoRow, read_program, row)
                found.append(False)
                continue
            found.append(True)
            rows = [row] if told[0] in ("box", "input") else ["box a 1", "box b 1", "box yes 1", row, "end"]
            try:
                program = read_program("\n".join(rows))
            except NoProgram:
                continue
            self.assertEqual(program[2][0], told)
        self.assertGreater(min(found.count(True), found.count(False)), 1000)

    def test_four_thousand_signs_in_good_time(self):
        rows = ["box a 16", "input a"] + [f"test {{a<({'1' * 28}+a)&!{{a=1&yes}}}} {at} {at}" for at in range(40)]
        text = "\n".join(rows)
        begun = time.perf_counter()
        for many in range(50):
            self.assertEqual(written_text(read_program(text)), text)
        self.assertLess(time.perf_counter() - begun, 30)


if __name__ == "__main__":
    unittest.main()
