"""[35], [36]: all rewritings, passes, and passages."""

import random
import unittest

from cellbills.checker import first_wrong, is_program
from cellbills.errors import InvalidPaper, InvalidProgram
from cellbills.passes import is_passage, led_by_passage, passed, rewritings
from cellbills.reader import read_text
from cellbills.rewrites import rewritten
from tests.checks import Checks, spoilt
from tests.list_programs import list_program
from tests.plain_reading import all_steps
from tests.plain_rewrites import plain_passed, plain_rewritings
from tests.samples import EMPTY, KINDS, ODD, random_program
from tests.test_reading import PROGRAM

LIST = "kind list = nil[] | cons[num, list]\n"
SMALL = read_text(LIST + """
    fun same(l: list): list = l
    fun grow(l: list): list = let n = 2; let m = 3; let s = n + m; let y = cons[s, l]; let z = same(y); z
    fun ways(l: list, c: flag): list = let b = no; match l { nil[]: let d = nil[]; let e = same(d); e cons[h, t]:
      if b then drop t; let f = nil[]; f else let i = h + h; let x = cons[h, t]; match x { nil[]: nil[] cons[j, k]: k } }
""")


def measure(program):
    """Return how many makes and keeps a program has, how many steps, and how many deeds."""
    heads = [step[0] for function in program[2] for step in all_steps(function[3])]
    return heads.count("make") + heads.count("keep"), len(heads), heads.count("deed")


class RewritingsTest(Checks, unittest.TestCase):

    def test_their_order(self):
        self.assertIsNone(first_wrong(SMALL))
        self.assertEqual(self.told(rewritings, SMALL), [
            ("reckoned", (1, 1, 0, 0, 0)), ("last", (1, 1, 0, 0, 0, 0, 0)),
            ("last", (1, 2, 0, 0, 0, 0)), ("tested", (1, 2, 0, 0, 1)), ("dead", (1, 2, 0, 0, 1, 1)),
            ("taken", (1, 2, 0, 0, 1, 1, 0)),
            ("inlined", (1, 1, 0, 0, 0, 0, 0)), ("inlined", (1, 2, 0, 0, 0, 0))])

    def test_several_rules_at_one_place(self):
        program = read_text("fun f(): num = let a = 1; let b = a + a; a")
        self.assertEqual(rewritings(program), [("reckoned", (1, 0, 0, 0)), ("dead", (1, 0, 0, 0))])
        self.assertEqual(passed(program)[1], [("reckoned", (1, 0, 0, 0)), ("dead", (1, 0, 0, 0))])

    def test_none(self):
        self.assertEqual(self.told(rewritings, EMPTY), [])
        self.assertEqual(rewritings(("program", KINDS, [])), [])
        self.assertEqual(rewritings(read_text("fun f(n: num): num = n")), [])

    def test_against_others(self):
        for seed in range(12):
            for program in (random_program(seed), list_program(seed, 4, 6)):
                self.assertEqual(self.told(rewritings, program), plain_rewritings(program))
        self.assertEqual(rewritings(PROGRAM), plain_rewritings(PROGRAM))


class PassedTest(Checks, unittest.TestCase):

    def check(self, program):
        told, papers = self.told(passed, program)
        self.assertTrue(is_program(told))
        self.assertEqual([rule for rule, _ in rewritings(told) if rule != "inlined"], [])
        self.is_told(True, is_passage, program, papers)
        self.assertEqual(repr(self.told(led_by_passage, program, papers)), repr(told))
        # Each one is the first that there is, and leaves less.
        for paper in papers:
            self.assertEqual(rewritings(program)[0], paper)
            before = measure(program)
            program = rewritten(program, paper)
            self.assertLess(measure(program), before)
        self.assertEqual(program, told)
        return papers

    def test_small_ones(self):
        self.assertEqual(self.check(EMPTY), [])
        papers = self.check(SMALL)
        self.assertEqual(papers[:4], [("reckoned", (1, 1, 0, 0, 0)), ("dead", (1, 1, 0)), ("dead", (1, 1, 0)),
                                      ("last", (1, 1, 0, 0, 0))])
        self.assertEqual(passed(SMALL)[0][2][1][3], ("num", "s", 5, ("make", "y", "cons", ("s", "l"), ("go", "same", ("y",)))))
        ways = passed(SMALL)[0][2][2][3]
        self.assertEqual(ways, ("take", "l", [("nil", (), ("make", "d", "nil", (), ("go", "same", ("d",)))),
                                              ("cons", ("h", "t"), ("end", "t"))]))

    def test_what_others_bring_about(self):
        # A deed that is reckoned tests a flag; what is dropped drops what it was made of.
        papers = self.check(read_text(LIST + """fun f(n: num, l: list): num = let a = 1; let b = 2; let c = a < b;
            let x = cons[a, l]; let y = cons[b, x]; if c then drop y; n else drop y; a"""))
        self.assertEqual([rule for rule, _ in papers],
                         ["reckoned", "tested", "dead", "dropped", "dead", "dropped", "dead"])

    def test_against_others(self):
        for seed in range(12):
            for program in (random_program(seed), list_program(seed, 4, 6, 5)):
                self.check(program)
                self.assertEqual(repr(passed(program)), repr(plain_passed(program)))
        self.check(PROGRAM)


class PassagesTest(Checks, unittest.TestCase):

    def test_lists_that_lead_on(self):
        self.is_told(True, is_passage, SMALL, [])
        told = self.told(led_by_passage, SMALL, [])
        self.assertEqual(repr(told), repr(SMALL))
        self.assertIsNot(told[2], SMALL[2])
        for seed in range(10):
            rng, program = random.Random(seed), list_program(seed, 5, 6, 5)
            first, papers = program, []
            for _ in range(12):
                able = rewritings(program)
                if not able:
                    break
                papers.append(rng.choice(able))
                program = rewritten(program, papers[-1])
            self.is_told(True, is_passage, first, papers)
            self.assertEqual(repr(self.told(led_by_passage, first, papers)), repr(program))
            for number in range(len(papers)):
                part = papers[:number] + papers[number + 1:]
                self.assertIs(is_passage(first, part), leads(first, part))

    def test_one_that_is_no_rewriting_there(self):
        papers = passed(SMALL)[1]
        self.is_told(True, is_passage, SMALL, papers[:3])
        for wrong in (papers[1:], papers[:2] + papers[:1], papers + papers[-1:], papers[:1] * 2, papers[::-1]):
            self.is_told(False, is_passage, SMALL, wrong)
            self.refused(led_by_passage, InvalidPaper, 1, SMALL, wrong)

    def test_wrong_forms(self):
        papers, rng = passed(SMALL)[1], random.Random(1)
        for odd in [tuple(papers), papers[0], [list(papers[0])], [papers], [None], "", [("inlined", (1, 0, 0))]] + ODD:
            if odd != []:
                self.is_told(False, is_passage, SMALL, odd)
                self.refused(led_by_passage, InvalidPaper, 1, SMALL, odd)
        for value in spoilt(papers, rng):
            good = isinstance(value, list) and leads(SMALL, value)
            self.is_told(good, is_passage, SMALL, value)

    def test_errors(self):
        for odd in ODD:
            if odd != ("program", [], []):
                for function in (rewritings, passed):
                    self.refused(function, InvalidProgram, 0, odd)
                for function in (is_passage, led_by_passage):
                    self.refused(function, InvalidProgram, 0, odd, None)


def leads(program, papers):
    """Tell whether each of a list is a rewriting of what those ahead of it lead to."""
    for paper in papers:
        if repr(paper) not in [repr(own) for own in rewritings(program)]:
            return False
        program = rewritten(program, paper)
    return True


if __name__ == "__main__":
    unittest.main()
