"""[10], [11], [12]: programs read."""

import random
import unittest

from cellbills.checker import is_program
from cellbills.errors import InvalidList, InvalidText
from cellbills.lexer import tokens
from cellbills.reader import is_text, read_text, wrong_at
from tests.grammar_table import RESERVED, first_wrong
from tests.plain_reading import ends
from tests.random_texts import random_function, spaced
from tests.samples import ODD, lists_within

SIGNS = list("()[]{},;:=|&<+-*/~")
DECLARATIONS = ("kind list = nil [ ] | cons [ num , list ] calls st = ( num , flag ) to list"
                " kind k = a [ ] calls e = ( ) to num").split()


def body(text, words=""):
    """Return the body that a text tells, with words in a note that is none of its words."""
    return read_text(f"fun zz(): num = {text} # {words}")[2][0][3]


class PartsTest(unittest.TestCase):

    def check(self, text, *rows):
        """Check the steps of a body, each one given without its end."""
        wanted = rows[-1]
        for row in rows[-2::-1]:
            wanted = row + (wanted,)
        self.assertEqual(body(text), wanted, text)

    def test_declarations(self):
        self.assertEqual(read_text(""), ("program", [], []))
        self.assertEqual(read_text(" # nothing\n"), ("program", [], []))
        self.assertEqual(read_text("kind a = b[]"), ("program", [("choice", "a", [("b", [])])], []))
        self.assertEqual(
            read_text("calls s = () to flag kind l = nil[] | cons[num, l] | x[flag,s] calls t = (l, num) to s"),
            ("program", [("calls", "s", [], "flag"),
                         ("choice", "l", [("nil", []), ("cons", ["num", "l"]), ("x", ["flag", "s"])]),
                         ("calls", "t", ["l", "num"], "s")], []))

    def test_functions(self):
        self.assertEqual(
            read_text("fun f(): num = x fun g(a: num, b: flag, c: l): l = y"),
            ("program", [], [("f", [], "num", ("end", "x")),
                             ("g", [("a", "num"), ("b", "flag"), ("c", "l")], "l", ("end", "y"))]))

    def test_it_need_not_be_a_program(self):
        text = "kind k = k[nothing] fun f(a: q, a: q): q = let a = a; go h(a, a) fun f(): k = raise k"
        self.assertIs(is_text(text), True)
        self.assertIs(is_program(read_text(text)), False)
        many = "kind k = " + " | ".join(["m[num, num, num, num, num]"] * 20)
        self.assertEqual(len(read_text(many)[1][0][2]), 20)

    def test_plain_parts(self):
        self.check("x", ("end", "x"))
        self.check("((x))", ("end", "x"))
        self.check("5", ("num", "a", 5), ("end", "a"))
        self.check("-5", ("num", "a", -5), ("end", "a"))
        self.check("- 0", ("num", "a", 0), ("end", "a"))
        self.check("yes", ("flag", "a", True), ("end", "a"))
        self.check("no", ("flag", "a", False), ("end", "a"))
        self.check("nil[]", ("make", "a", "nil", ()), ("end", "a"))
        self.check("cons[x, y]", ("make", "a", "cons", ("x", "y")), ("end", "a"))
        self.check("f()", ("call", "a", "f", ()), ("end", "a"))
        self.check("f(x, x)", ("call", "a", "f", ("x", "x")), ("end", "a"))
        self.check("keep k f()", ("keep", "a", "k", "f", ()), ("end", "a"))
        self.check("keep k f(x, y)", ("keep", "a", "k", "f", ("x", "y")), ("end", "a"))
        self.check("use g()", ("use", "a", "g", ()), ("end", "a"))
        self.check("use g(x)", ("use", "a", "g", ("x",)), ("end", "a"))
        flag = body("yes")[2]
        self.assertIs(flag, True)

    def test_signs(self):
        for sign, name in (("+", "plus"), ("-", "minus"), ("*", "times"), ("/", "over"), ("~", "rest"),
                           ("<", "less"), ("=", "same"), ("&", "both"), ("|", "any")):
            self.check(f"x {sign} y", ("deed", "a", name, ("x", "y")), ("end", "a"))
        self.check("not x", ("deed", "a", "not", ("x",)), ("end", "a"))
        self.check("not not x", ("deed", "a", "not", ("x",)), ("deed", "b", "not", ("a",)), ("end", "b"))

    def test_levels(self):
        """Each sign binds closer than those of the levels ahead of it in this row."""
        levels = ["|", "&", "<=", "+-", "*/~"]
        names = {"|": "any", "&": "both", "<": "less", "=": "same", "+": "plus", "-": "minus",
                 "*": "times", "/": "over", "~": "rest"}
        for number, far in enumerate(levels):
            for near in levels[number + 1:]:
                for one in far:
                    for other in near:
                        self.check(f"x {one} y {other} z", ("deed", "a", names[other], ("y", "z")),
                                   ("deed", "b", names[one], ("x", "a")), ("end", "b"))
                        self.check(f"x {other} y {one} z", ("deed", "a", names[other], ("x", "y")),
                                   ("deed", "b", names[one], ("a", "z")), ("end", "b"))
                        self.check(f"(x {one} y) {other} z", ("deed", "a", names[one], ("x", "y")),
                                   ("deed", "b", names[other], ("a", "z")), ("end", "b"))

    def test_signs_of_one_level_are_read_from_the_left(self):
        for one in "+-":
            for other in "+-":
                self.assertEqual(body(f"x {one} y {other} z"), body(f"(x {one} y) {other} z"))
        for one in "*/~":
            for other in "*/~":
                self.assertEqual(body(f"x {one} y {other} z"), body(f"(x {one} y) {other} z"))
        for sign in "&|":
            self.assertEqual(body(f"x {sign} y {sign} z"), body(f"(x {sign} y) {sign} z"))
        self.assertNotEqual(body("x - y - z"), body("x - (y - z)"))

    def test_not_and_its_neighbours(self):
        self.assertEqual(body("not x & y"), body("(not x) & y"))
        self.assertEqual(body("not x | y"), body("(not x) | y"))
        self.assertEqual(body("not x < y"), body("not (x < y)"))
        self.assertEqual(body("not x = y + z"), body("not (x = (y + z))"))
        self.assertEqual(body("x & not y"), body("x & (not y)"))

    def test_negative_numbers(self):
        self.check("x - 5", ("num", "a", 5), ("deed", "b", "minus", ("x", "a")), ("end", "b"))
        self.check("x - -5", ("num", "a", -5), ("deed", "b", "minus", ("x", "a")), ("end", "b"))
        self.check("- 5 * - 6", ("num", "a", -5), ("num", "b", -6), ("deed", "c", "times", ("a", "b")),
                   ("end", "c"))
        self.check(f"{2 ** 63 - 1}", ("num", "a", 2 ** 63 - 1), ("end", "a"))
        self.check(f"-{2 ** 63}", ("num", "a", -2 ** 63), ("end", "a"))

    def test_last_parts(self):
        self.check("drop x; raise y", ("drop", "x"), ("raise", "y"))
        self.check("raise 7", ("num", "a", 7), ("raise", "a"))
        self.check("go f(x, 1)", ("num", "a", 1), ("go", "f", ("x", "a")))
        self.check("go use g(1, x)", ("num", "a", 1), ("usego", "g", ("a", "x")))
        self.check("go f()", ("go", "f", ()))
        self.check("if x then y else z", ("test", "x", ("end", "y"), ("end", "z")))
        self.assertEqual(body("if not c then 1 else raise 2"),
                         ("deed", "a", "not", ("c",),
                          ("test", "a", ("num", "b", 1, ("end", "b")), ("num", "d", 2, ("raise", "d")))))
        self.assertEqual(body("match x { nil[]: y cons[h, t]: go f(h) }"),
                         ("take", "x", [("nil", (), ("end", "y")), ("cons", ("h", "t"), ("go", "f", ("h",)))]))
        self.assertEqual(body("match f(1) { m[]: drop x; y }"),
                         ("num", "a", 1, ("call", "b", "f", ("a",),
                                          ("take", "b", [("m", (), ("drop", "x", ("end", "y")))]))))
        self.assertEqual(body("try x = f(y, 1) then x catch n then raise n"),
                         ("num", "a", 1, ("try", "x", "f", ("y", "a"), ("end", "x"), "n", ("raise", "n"))))

    def test_ends_within_one_another(self):
        self.assertEqual(
            body("if x then if y then 1 else 2 else try r = f() then try s = g() then r catch n then s"
                 " catch m then match m { k[]: 3 l[q]: q }"),
            ("test", "x", ("test", "y", ("num", "a", 1, ("end", "a")), ("num", "b", 2, ("end", "b"))),
             ("try", "r", "f", (), ("try", "s", "g", (), ("end", "r"), "n", ("end", "s")), "m",
              ("take", "m", [("k", (), ("num", "c", 3, ("end", "c"))), ("l", ("q",), ("end", "q"))]))))

    def test_order_of_parts(self):
        self.check("f(g(1, 2), x, h(3))", ("num", "a", 1), ("num", "b", 2), ("call", "c", "g", ("a", "b")),
                   ("num", "d", 3), ("call", "e", "h", ("d",)), ("call", "i", "f", ("c", "x", "e")), ("end", "i"))

    def test_let(self):
        self.check("let x = 5; x", ("num", "x", 5), ("end", "x"))
        self.check("let x = (1 + 2); x", ("num", "a", 1), ("num", "b", 2), ("deed", "x", "plus", ("a", "b")),
                   ("end", "x"))
        self.check("let x = x + x; x", ("deed", "x", "plus", ("x", "x")), ("end", "x"))
        self.check("let x = f(use g(), y); drop x; 1", ("use", "a", "g", ()), ("call", "x", "f", ("a", "y")),
                   ("drop", "x"), ("num", "b", 1), ("end", "b"))


class WordsTest(unittest.TestCase):
    """What words stand for, and which names are given."""

    def test_words_stand_for_other_names(self):
        self.assertEqual(body("let x = y; x"), ("end", "y"))
        self.assertEqual(body("let x = ((y)); let z = x; f(z, x, y)"),
                         ("call", "a", "f", ("y", "y", "y"), ("end", "a")))
        self.assertEqual(body("let x = y; drop x; raise x"), ("drop", "y", ("raise", "y")))
        self.assertEqual(body("let x = y; let x = x; x"), ("end", "y"))
        self.assertEqual(body("let x = x; x"), ("end", "x"))
        self.assertEqual(body("let x = y; let y = 1; f(x, y)"),
                         ("num", "y", 1, ("call", "a", "f", ("y", "y"), ("end", "a"))))
        self.assertEqual(body("let x = y; let y = z; f(x, y)"), ("call", "a", "f", ("y", "z"), ("end", "a")))

    def test_wherever_a_name_is_used(self):
        self.assertEqual(body("let x = y; go f(x)"), ("go", "f", ("y",)))
        self.assertEqual(body("let x = y; go use x(x)"), ("usego", "y", ("y",)))
        self.assertEqual(body("let x = y; use x(x)"), ("use", "a", "y", ("y",), ("end", "a")))
        self.assertEqual(body("let x = y; if x then x else x"), ("test", "y", ("end", "y"), ("end", "y")))
        self.assertEqual(body("let x = y; match x { m[]: x }"), ("take", "y", [("m", (), ("end", "y"))]))
        self.assertEqual(body("let x = y; try r = f(x) then x catch n then x"),
                         ("try", "r", "f", ("y",), ("end", "y"), "n", ("end", "y")))
        self.assertEqual(body("let x = y; not x"), ("deed", "a", "not", ("y",), ("end", "a")))

    def test_not_where_something_else_is_named(self):
        self.assertEqual(body("let x = y; x(x)"), ("call", "a", "x", ("y",), ("end", "a")))
        self.assertEqual(body("let x = y; x[x]"), ("make", "a", "x", ("y",), ("end", "a")))
        self.assertEqual(body("let x = y; keep x x(x)"), ("keep", "a", "x", "x", ("y",), ("end", "a")))
        self.assertEqual(body("let x = y; go x(x)"), ("go", "x", ("y",)))
        self.assertEqual(body("let x = y; match z { x[]: x }"), ("take", "z", [("x", (), ("end", "y"))]))
        self.assertEqual(body("let x = y; try z = x() then z catch n then n"),
                         ("try", "z", "x", (), ("end", "z"), "n", ("end", "n")))

    def test_bound_anew(self):
        self.assertEqual(body("let x = y; let x = 5; x"), ("num", "x", 5, ("end", "x")))
        # What the let itself uses is what stood there ahead of it.
        self.assertEqual(body("let x = y; let x = not x; x"), ("deed", "x", "not", ("y",), ("end", "x")))
        self.assertEqual(body("let x = y; match z { m[x]: x n[]: x }"),
                         ("take", "z", [("m", ("x",), ("end", "x")), ("n", (), ("end", "y"))]))
        self.assertEqual(body("let x = y; try x = f(x) then x catch n then x"),
                         ("try", "x", "f", ("y",), ("end", "x"), "n", ("end", "y")))
        self.assertEqual(body("let x = y; try r = f() then x catch x then x"),
                         ("try", "r", "f", (), ("end", "y"), "x", ("end", "x")))

    def test_on_one_way_alone(self):
        self.assertEqual(body("if c then let x = y; x else x"), ("test", "c", ("end", "y"), ("end", "x")))
        self.assertEqual(body("let x = y; if c then let x = 1; x else x"),
                         ("test", "c", ("num", "x", 1, ("end", "x")), ("end", "y")))
        self.assertEqual(body("match c { m[]: let x = y; x n[]: x }"),
                         ("take", "c", [("m", (), ("end", "y")), ("n", (), ("end", "x"))]))

    def test_in_one_function_alone(self):
        told = read_text("fun f(): num = let x = y; x fun g(): num = f(x, 1)")
        self.assertEqual(told[2][1][3], ("num", "a", 1, ("call", "b", "f", ("x", "a"), ("end", "b"))))

    def given(self, text):
        return [row[1] for row in steps(read_text(text)[2][0][3]) if row[0] == "num"]

    def test_names_given_beside_words_of_the_text(self):
        # Each of the words a, b, c, d, e, g stands somewhere in the text, though not as a name.
        text = "fun a(b: c): d = let f = e[1]; match f { g[h]: i(keep j k(2)) m[]: 3 }"
        self.assertEqual(self.given(text), ["l", "n", "q"])
        # Words of other functions do not count.
        both = "fun b(): num = 1 " + text
        self.assertEqual(self.given(both), ["a"])
        # Nor do words in notes, nor those ahead of the functions.
        self.assertEqual(self.given("kind a = b[] # a b\nfun f(): num = 1 # a"), ["a"])
        self.assertEqual(self.given("fun f(): num = 1 fun a(): num = b"), ["a"])
        # A word that stands behind counts, too.
        self.assertEqual(self.given("fun f(): num = if g(1) then 2 else let b = 3; raise a"),
                         ["c", "e", "b"])

    def test_names_past_z_and_past_reserved_words(self):
        text = "fun zz1(): num = q1(" + ", ".join(["1"] * 420) + ")"
        names = self.given(text)
        self.assertEqual(names[:27], list("abcdefghijklmnopqrstuvwxyz") + ["aa"])
        self.assertEqual(names[26 + 25:26 + 27], ["az", "ba"])
        for word in ("go", "if", "in", "no", "to"):
            self.assertNotIn(word, names)
        self.assertEqual(len(set(names)), 420)
        # if and in stand between ie and io: nothing else is left out there.
        at = names.index("ie")
        self.assertEqual(names[at:at + 3], ["ie", "ig", "ih"])
        wide = "fun zz1(): num = q1(" + ", ".join(["1"] * 710) + ")"
        names = self.given(wide)
        last = names.index("zz")
        self.assertEqual(names[last:last + 2], ["zz", "aaa"])

    def test_names_of_ways_and_ends(self):
        text = ("fun w(): num = if f(1) then match g(2) { m[]: 3 n[]: 4 } else"
                " try x = h(5) then 6 catch y then 7")
        self.assertEqual(self.given(text), ["a", "c", "e", "i", "j", "k", "l"])

    def test_random_functions(self):
        for seed in range(600):
            rng = random.Random(seed)
            found = [random_function(10 * seed + number) for number in range(rng.randrange(1, 3))]
            text, places = spaced([token for row, _ in found for token in row], rng)
            self.assertEqual(read_text(text), ("program", [], [function for _, function in found]), text)
            self.assertEqual([row[2:] for row in tokens(text)], places)
            self.assertIs(is_text(text), True)


def steps(step):
    """Return all steps within a step, front first."""
    found, waiting = [], [step]
    while waiting:
        found.append(waiting.pop())
        waiting.extend(ends(found[-1])[::-1])
    return found


class WrongTest(unittest.TestCase):

    # For each row of the table a right text; each of its tokens is one that may be wrong.
    ROWS = [
        "", "kind a = b [ ]", "kind a = b [ num ] | c [ flag , a ] | d [ ]", "calls a = ( ) to num",
        "calls a = ( num , flag , b ) to c", "fun f ( ) : num = x", "fun f ( a : num , b : c ) : flag = x",
        "fun f ( ) : n = let x = y ; drop x ; let y = x ; y", "fun f ( ) : n = raise x",
        "fun f ( ) : n = go g ( x , y )", "fun f ( ) : n = go g ( )", "fun f ( ) : n = go use g ( x , y )",
        "fun f ( ) : n = if x then y else z", "fun f ( ) : n = match x { a [ ] : x b [ y , z ] : y }",
        "fun f ( ) : n = try x = g ( y , z ) then x catch n then n", "fun f ( ) : n = x | y & z | u",
        "fun f ( ) : n = not not x < y & not z = u", "fun f ( ) : n = x + y - z * u / v ~ w",
        "fun f ( ) : n = - 5 + ( yes & no )", "fun f ( ) : n = 5 * ( x )",
        "fun f ( ) : n = x [ ] + y [ z , u ]", "fun f ( ) : n = x ( ) + y ( z , u )",
        "fun f ( ) : n = keep k f ( ) + keep k f ( x , y )", "fun f ( ) : n = use g ( ) + use g ( x , y )",
        "kind a = b [ ] calls c = ( ) to a kind d = e [ ] fun f ( ) : n = x fun g ( ) : n = y",
    ]

    OTHERS = RESERVED + SIGNS + ["w", "7", str(2 ** 63 - 1), str(2 ** 63), str(2 ** 63 + 1)]

    def check(self, tokens_of_text, rng):
        text, places = spaced(tokens_of_text, rng)
        wrong = first_wrong(tokens_of_text)
        wanted = None if wrong is None else places[wrong]
        self.assertEqual(wrong_at(text), wanted, text)
        self.assertIs(is_text(text), wanted is None)
        if wanted is None:
            read_text(text)
        else:
            with self.assertRaises(InvalidText) as caught:
                read_text(text)
            self.assertEqual(caught.exception.value, wanted)

    def test_each_place_of_each_row(self):
        rng = random.Random(1)
        for text in self.ROWS:
            row = text.split()
            self.check(row, rng)
            for at in range(len(row) + 1):
                # The text's end at each place, and each other token.
                self.check(row[:at], rng)
                for other in self.OTHERS:
                    self.check(row[:at] + [other], rng)

    def test_random_texts(self):
        for seed in range(500):
            rng = random.Random(seed)
            row = DECLARATIONS * rng.randrange(2) + random_function(seed)[0]
            for _ in range(rng.randrange(1, 4)):
                at = rng.randrange(len(row) + 1)
                row[at:at + rng.randrange(2)] = [rng.choice(self.OTHERS)] * rng.randrange(2)
            if len(row) < 100:
                self.check(row, rng)

    def test_what_is_no_token(self):
        start = "fun f(a: num): num =\n  "
        for text, place in (("A", (2, 3)), ("x + ?", (2, 7)), ("x\n\n !", (4, 2)), ("let x = 00; x", (2, 11)),
                            ("a" * 31, (2, 3)), ("x + " + "9" * 20, (2, 7)), ("x # A\nA", (3, 1))):
            self.assertEqual(wrong_at(start + text), place)
        # A wrong token ahead of it comes first, one behind it doesn't.
        self.assertEqual(wrong_at(start + "x x ?"), (2, 5))
        self.assertEqual(wrong_at(start + "x + ? x x"), (2, 7))
        self.assertEqual(wrong_at("?"), (1, 1))

    def test_numbers_beyond_their_bounds(self):
        start = "fun f(): num = "
        self.assertIsNone(wrong_at(start + str(2 ** 63 - 1)))
        self.assertIsNone(wrong_at(start + "-" + str(2 ** 63)))
        self.assertEqual(wrong_at(start + str(2 ** 63)), (1, 16))
        self.assertEqual(wrong_at(start + "-" + str(2 ** 63 + 1)), (1, 17))
        self.assertEqual(wrong_at(start + "x-" + str(2 ** 63)), (1, 18))
        self.assertIsNone(wrong_at(start + "x--" + str(2 ** 63)))
        self.assertEqual(wrong_at(start + "x + " + "9" * 19), (1, 20))

    def test_the_texts_end(self):
        self.assertEqual(wrong_at("fun f(x: num): num = x +"), (1, 25))
        self.assertEqual(wrong_at("fun f(x: num): num = x + # note\n "), (2, 2))
        self.assertEqual(wrong_at("fun f(x: num): num =\n  let y = 2 x"), (2, 13))

    def test_what_is_no_string(self):
        for value in ODD:
            if isinstance(value, str):
                self.assertIs(is_text(value), wrong_at(value) is None)
                continue
            self.assertIs(is_text(value), False)
            for function in (read_text, wrong_at):
                with self.assertRaises(InvalidList) as caught:
                    function(value)
                self.assertIs(caught.exception.value, value)

    def test_lists_are_new(self):
        told = read_text("kind k = a[num] | b[num] calls c = (k) to k fun f(x: k): k = match x { a[y]: y b[z]: z }")
        lists = lists_within(told)
        self.assertEqual(len(lists), 8)
        self.assertEqual(len({id(part) for part in lists}), 8)


if __name__ == "__main__":
    unittest.main()
