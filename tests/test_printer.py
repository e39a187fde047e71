"""[13], [14]: programs written, and programs that differ in names alone."""

import copy
import unittest

from cellbills.checker import is_program
from cellbills.errors import InvalidProgram
from cellbills.printer import are_alike, renamed, written
from cellbills.reader import read_text
from tests.samples import EMPTY, KINDS, LISTS, ODD, one_function, random_program, share_lists

WRITTEN = """\
kind list = nil[] | cons[num, list]
kind tree = leaf[flag] | fork[tree, list, tree] | hold[step]
calls step = (num) to num
calls join = (list) to list
calls plant = () to tree
fun add(x: num, y: num): num =
  let a = x + y;
  let b = a - x;
  let c = a * b;
  let d = c / y;
  let e = d ~ y;
  let f = 5;
  let g = -5;
  let h = 0;
  let i = g < f;
  let j = h = e;
  let k = i & j;
  let l = k | i;
  let m = not l;
  let n = yes;
  let o = no;
  if m then
    if n then
      raise e
    else
      go add(h, g)
  else
    d
fun sum(l: list, s: step): num =
  match l {
    nil[]:
      let q = 1;
      go use s(q)
    cons[h, t]:
      let r = use s(h);
      let k = keep step add(r);
      try z = sum(t, k) then
        let n = nil[];
        let c = cons[z, n];
        drop c;
        z
      catch e then
        raise e
  }
fun none(): tree =
  let k = keep plant none();
  let t = use k();
  let n = none();
  let l = nil[];
  let f = fork[t, l, n];
  f
"""


class WrittenTest(unittest.TestCase):

    def test_each_step(self):
        program = read_text(WRITTEN)
        self.assertTrue(is_program(program))
        self.assertEqual(written(program), WRITTEN)

    def test_nothing(self):
        self.assertEqual(written(EMPTY), "")
        self.assertEqual(written(("program", LISTS, [])), "kind list = nil[] | cons[num, list]\n")

    def test_ends_within_one_another(self):
        body = ("test", "c", ("test", "d", ("end", "n"), ("raise", "n")),
                ("try", "x", "f", ("c", "d", "n"), ("test", "c", ("end", "x"), ("end", "n")), "e",
                 ("end", "e")))
        program = one_function(body, [("c", "flag"), ("d", "flag"), ("n", "num")])
        self.assertEqual(written(program), (
            "fun f(c: flag, d: flag, n: num): num =\n"
            "  if c then\n"
            "    if d then\n"
            "      n\n"
            "    else\n"
            "      raise n\n"
            "  else\n"
            "    try x = f(c, d, n) then\n"
            "      if c then\n"
            "        x\n"
            "      else\n"
            "        n\n"
            "    catch e then\n"
            "      e\n"))

    def test_takes_within_one_another(self):
        body = ("take", "l", [("nil", (), ("raise", "n")), ("cons", ("h", "t"), ("take", "t", [
            ("nil", (), ("end", "h")), ("cons", ("i", "u"), ("drop", "u", ("end", "i")))]))])
        program = one_function(body, [("n", "num"), ("l", "list")], kinds=LISTS)
        self.assertEqual(written(program).split("\n", 1)[1], (
            "fun f(n: num, l: list): num =\n"
            "  match l {\n"
            "    nil[]:\n"
            "      raise n\n"
            "    cons[h, t]:\n"
            "      match t {\n"
            "        nil[]:\n"
            "          h\n"
            "        cons[i, u]:\n"
            "          drop u;\n"
            "          i\n"
            "      }\n"
            "  }\n"))

    def test_numbers_at_their_bounds(self):
        for number in (-2 ** 63, 2 ** 63 - 1, 0, -1):
            program = one_function(("num", "x", number, ("end", "x")))
            self.assertIn(f"let x = {number};", written(program))
            self.assertEqual(read_text(written(program)), program)

    def test_random_programs(self):
        for seed in range(80):
            program = random_program(seed)
            same = copy.deepcopy(program)
            text = written(program)
            self.assertEqual(read_text(text), program)
            self.assertEqual(program, same)
            for line in text.splitlines():
                self.assertEqual(line, line.rstrip())

    def test_errors(self):
        for program in ODD:
            if program != EMPTY:
                for function in (written, renamed):
                    with self.assertRaises(InvalidProgram) as caught:
                        function(program)
                    self.assertIs(caught.exception.value, program)


class RenamedTest(unittest.TestCase):

    def test_order_of_names(self):
        body = ("num", "n1", 1, ("take", "l", [
            ("nil", (), ("num", "n2", 2, ("raise", "n2"))),
            ("cons", ("h", "t"), ("try", "r", "f", ("t", "n1"), (
                "num", "n3", 3, ("drop", "r", ("raise", "n3"))), "e", ("num", "n4", 4, ("raise", "e"))))]))
        program = one_function(body, [("l", "list"), ("p", "num")], "list", LISTS)
        self.assertEqual(renamed(program), one_function(
            ("num", "c", 1, ("take", "a", [
                ("nil", (), ("num", "d", 2, ("raise", "d"))),
                ("cons", ("e", "f"), ("try", "g", "f", ("f", "c"), (
                    "num", "h", 3, ("drop", "g", ("raise", "h"))), "i", ("num", "j", 4, ("raise", "i"))))])),
            [("a", "list"), ("b", "num")], "list", LISTS))

    def test_anew_in_each_function(self):
        functions = [("f", [("x", "num")], "num", ("num", "y", 1, ("end", "x"))),
                     ("g", [], "flag", ("flag", "x", True, ("end", "x")))]
        self.assertEqual(renamed(("program", [], functions)), ("program", [], [
            ("f", [("a", "num")], "num", ("num", "b", 1, ("end", "a"))),
            ("g", [], "flag", ("flag", "a", True, ("end", "a")))]))

    def test_past_z_and_past_reserved_words(self):
        def body(names):
            step = ("end", names[-1])
            for name in reversed(names):
                step = ("num", name, 1, step)
            return step
        wanted = [word for word in list("abcdefghijklmnopqrstuvwxyz")
                  + [a + b for a in "abcdefghijklmno" for b in "abcdefghijklmnopqrstuvwxyz"]
                  if word not in ("go", "if", "in", "no")][:399]
        program = one_function(body([f"x{n}" for n in range(399)]))
        self.assertEqual(renamed(program), one_function(body(wanted)))
        self.assertTrue(is_program(renamed(program)))

    def test_only_names_of_bodies(self):
        # Names that are names of functions, kinds and constructors, too, change as names alone.
        body = ("make", "nil", "nil", (), ("call", "list", "f", ("nil", "f"), ("end", "list")))
        program = one_function(body, [("cons", "list"), ("f", "step")], "list",
                               LISTS + [("calls", "step", ["num"], "num")])
        program[2][0] = program[2][0][:3] + (("drop", "cons", body),)
        told = ("drop", "a", ("make", "c", "nil", (), ("call", "d", "f", ("c", "b"), ("end", "d"))))
        self.assertEqual(renamed(program)[2], [("f", [("a", "list"), ("b", "step")], "list", told)])

    def test_random_programs(self):
        for seed in range(60):
            program = random_program(seed)
            same = copy.deepcopy(program)
            told = renamed(program)
            self.assertTrue(is_program(told))
            self.assertEqual(renamed(told), told)
            self.assertFalse(share_lists(program, told))
            self.assertEqual(program, same)
            self.assertIs(are_alike(program, told), True)
            self.assertIs(are_alike(told, program), True)


class AlikeTest(unittest.TestCase):

    BODY = ("num", "x", 1, ("deed", "y", "plus", ("x", "a"), ("keep", "k", "step", "f", (), (
        "use", "r", "k", ("y",), ("test", "c", ("end", "r"), ("end", "x"))))))

    def program(self, body, parameters=(("a", "num"), ("c", "flag")), kinds=KINDS, name="f", more=()):
        one = ("g", [("a", "num")], "num", ("end", "a"))
        return ("program", kinds, [(name, list(parameters), "num", body), one] + list(more))

    def told(self, old, new):
        """Tell whether a body is alike with one part of it exchanged for another one."""
        text = repr(self.BODY).replace("'f'", "'g'")
        self.assertIn(old, text)
        return are_alike(self.program(eval(text)), self.program(eval(text.replace(old, new, 1))))

    def test_names_alone(self):
        body = eval(repr(self.BODY).replace("'f'", "'g'"))
        for old, new in (("'y'", "'other'"), ("'x'", "'w0'"), ("'k'", "'step'"), ("'r'", "'f'")):
            other = eval(repr(body).replace(old, new))
            self.assertIs(are_alike(self.program(body), self.program(other)), True)
        other = eval(repr(body).replace("'a'", "'p'").replace("'c'", "'a'"))
        self.assertIs(are_alike(self.program(body), self.program(other, (("p", "num"), ("a", "flag")))), True)

    def test_other_things(self):
        for old, new in (("1", "2"), ("'plus'", "'minus'"), ("('x', 'a')", "('a', 'x')"),
                         ("('x', 'a')", "('x', 'x')"), ("('end', 'x')", "('end', 'y')"),
                         ("('end', 'x')", "('raise', 'x')"), ("('end', 'x')", "('go', 'g', ('x',))"),
                         ("('end', 'x')", "('num', 'z', 1, ('end', 'z'))")):
            self.assertIs(self.told(old, new), False, (old, new))

    def test_numbers_and_flags_that_are_equal(self):
        one, other = ("num", "x", 1, ("raise", "n")), ("flag", "x", True, ("raise", "n"))
        programs = [one_function(body, [("n", "num")]) for body in (one, other)]
        self.assertIs(are_alike(*programs), False)

    def test_heads_and_kinds(self):
        body = ("end", "a")
        one = self.program(body)
        self.assertIs(are_alike(one, self.program(body)), True)
        self.assertIs(are_alike(one, self.program(body, name="h")), False)
        self.assertIs(are_alike(one, self.program(body, (("a", "num"), ("c", "num")))), False)
        self.assertIs(are_alike(one, self.program(body, (("a", "num"),))), False)
        self.assertIs(are_alike(one, self.program(body, (("c", "flag"), ("a", "num")))), False)
        self.assertIs(are_alike(one, self.program(body, kinds=KINDS + [("calls", "z", [], "num")])), False)
        self.assertIs(are_alike(one, self.program(body, kinds=KINDS[:3] + KINDS[:2:-1])), False)
        self.assertIs(are_alike(one, self.program(body, more=[("h", [], "flag", ("flag", "x", True, (
            "end", "x")))])), False)
        turned = (one[0], one[1], one[2][::-1])
        self.assertIs(are_alike(one, turned), False)

    def test_errors(self):
        for odd in ODD:
            if odd != EMPTY:
                for pair in ((odd, None), (odd, EMPTY), (EMPTY, odd)):
                    with self.assertRaises(InvalidProgram) as caught:
                        are_alike(*pair)
                    self.assertIs(caught.exception.value, odd)


if __name__ == "__main__":
    unittest.main()
