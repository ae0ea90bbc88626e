"""Groups within and beside one another, and the choice that costs least."""
import random
import unittest

from tests.helper import (Reference, as_words, answer, cost_of, join_tokens, laid, laid_body, laid_value,
                          random_tokens)

WIDTHS = (20, 21, 22, 24, 27, 30, 36, 45, 60, 80)


class Groups(unittest.TestCase):
    def value(self, words, width, *lines):
        self.assertEqual(laid_value(words, width), list(lines))

    def body(self, words, width, *lines):
        self.assertEqual(laid_body(words, width), list(lines))

    def test_at_the_width(self):
        for width in range(20, 60):
            name = "n" * (width - len("let k = f(a + )"))
            if len(name) <= 31:
                self.value("f(a + " + name + ")", width, "let k = f(a + " + name + ")")
            if len(name) < 31:
                self.value("f(a + " + name + "n)", width, "let k = f(", "  a + " + name + "n", ")")

    def test_outer_before_inner(self):
        self.value("f(g(aaaa), bbbbbb)", 20, "let k = f(", "  g(aaaa),", "  bbbbbb", ")")
        self.value("f(ggggggg(aaaaaaaaaa), b)", 20, "let k = f(", "  ggggggg(", "    aaaaaaaaaa", "  ),", "  b", ")")
        self.value("[[aaaaaaa, b], [c, d]]", 20, "let k = [", "  [aaaaaaa, b],", "  [c, d]", "]")

    def test_indents_of_first_tokens(self):
        # The row holds its first token: what begins its line is indented by it, too.
        self.value("f(aaaaaaaaaaaa + bbbbbbbbbbbb)", 20,
                   "let k = f(", "    aaaaaaaaaaaa", "    + bbbbbbbbbbbb", ")")
        self.value("f(aaaaaaaaaaaa * bbbbbbbbb + c, d)", 20,
                   "let k = f(", "      aaaaaaaaaaaa", "      * bbbbbbbbb", "    + c,", "  d", ")")
        self.body("say aaaaaa, bbbbbbbbbb + cccccccccc, d", 20,
                  "say aaaaaa,", "    bbbbbbbbbb", "    + cccccccccc,", "  d")
        self.value("aaaa + bbbb * cccccccccccc", 20, "let k = aaaa", "  + bbbb", "    * cccccccccccc")
        self.value("aaaaaaa * bbbbbb + cccccccccccc", 24, "let k = aaaaaaa * bbbbbb", "  + cccccccccccc")
        self.value("f(if aaaaaaaa then bbbbbbbb else c)", 20,
                   "let k = f(", "    if aaaaaaaa", "    then bbbbbbbb", "    else c", ")")

    def test_closing_brackets(self):
        self.value("a + f(bbbbbbbbbb + ccccccccccc)", 20,
                   "let k = a", "  + f(", "      bbbbbbbbbb", "      + ccccccccccc", "  )")
        self.body("if a { f(bbbbbbbbbbbbbbb, cc) }", 20,
                  "if a {", "  f(", "    bbbbbbbbbbbbbbb,", "    cc", "  )", "}")

    def test_bytes_before_lines(self):
        # One byte less beyond the width is worth any number of lines.
        words = "[" + ", ".join("abcdefg") + ", " + "n" * 18 + "]"
        self.assertEqual(len(laid_value(words, 20)), 10)
        long = "n" * 31
        self.value(long, 20, "let k = " + long)
        self.value("[" + long + "]", 20, "let k = [", "  " + long, "]")
        # Breaking would only make it worse.
        self.body("a" * 19 + "()", 20, "a" * 19 + "()")
        self.value("a(b)[" + long + "]", 20, "let k = a(", "  b", ")[" + long + "]")
        self.body("x(" + long + ")", 20, "x(", "  " + long, ")")
        self.body("x = f(a)[" + long + "](b)", 20, "x = f(", "  a", ")[" + long + "](", "  b", ")")

    def test_lines_before_choice(self):
        # The row's two lines are fewer than three of the call's.
        self.value("aaaaaaaa + f(bbbbbb)", 20, "let k = aaaaaaaa", "  + f(bbbbbb)")
        # The first group broken alone costs as much as the second one alone, and is the one that stays flat.
        self.value("f(aaaaaaa)(bbbbbbb)", 20, "let k = f(aaaaaaa)(", "  bbbbbbb", ")")
        self.value("f(a) + g(bbbb) - h(c)", 20, "let k = f(a)", "  + g(bbbb)", "  - h(c)")
        self.body("if f(a) {} else if g(b) {}", 22, "if f(a) {} else if g(", "  b", ") {}")

    def test_all_at_once(self):
        # Both groups stand on one line, and only both of them broken have it end early enough.
        self.body("if ffffff(a) {} else if gggggg(b) {} else {}", 18,
                  "if ffffff(", "  a", ") {} else if gggggg(", "  b", ") {} else {}")

    def test_many_beside_one_another(self):
        self.value("f(a)(b)(c)(d)(e)(f)", 20, "let k = f(a)(b)(c)(", "  d", ")(e)(f)")
        self.value("f(a)(b)(c)(ddddddddd)(e)(f)(g)(h)(i)", 20,
                   "let k = f(a)(b)(c)(", "  ddddddddd", ")(e)(f)(g)(h)(i)")

    def test_beyond_by_indent(self):
        words = "f()"
        for level in range(15):
            words = "if a { " + words + " }"
        lines = laid_body(words, 20)
        self.assertEqual(lines[15], "  " * 15 + "f()")
        self.assertEqual(lines[:2] + lines[-1:], ["if a {", "  if a {", "}"])
        lines = laid_body(words.replace("f()", "f(aaaaaaaa, b)"), 20)
        self.assertEqual(lines[15], "  " * 15 + "f(aaaaaaaa, b)")

    def test_say_holds_behind_the_word(self):
        self.body("say # c\na, b", 80, "say # c", "  a, b")
        self.body("say # c\naaaaaaaaaaaaaaa, bbbbbb", 20, "say # c", "    aaaaaaaaaaaaaaa,", "  bbbbbb")
        self.body("say a # c\n, b", 80, "say a # c", "    ,", "  b")
        self.body("say a, # c\nb", 80, "say a, # c", "  b")

    def test_small_programs_against_all_choices(self):
        rng = random.Random(33)
        tried = 0
        for turn in range(1500):
            row = random_tokens(rng, rng.choice([12, 20, 30, 40]), rng.choice(["statement", "statement", "decl"]))
            if row[0] not in ("fn", "record", "account", "let") or rng.random() < 0.2:
                row = ["fn", "f", "(", ")", "{"] + row + ["}"] if row[0] not in ("fn", "record", "account") else row
            text = join_tokens(rng, ["module", "a"] + row, rng.choice([0, 0, 0, 0.03, 0.1]))
            program = Reference(text)
            if not 0 < sum(not program.forced(at) for at in range(len(program.groups))) <= 7:
                continue
            for width in rng.sample(WIDTHS, 3):
                self.assertEqual(laid(text, width), program.best(width), (width, text))
                tried += 1
        self.assertGreater(tried, 1500)

    def test_large_programs_against_random_choices(self):
        rng = random.Random(34)
        for turn in range(60):
            row = "module a fn f ( ) {".split() + random_tokens(rng, 200, "statement") + ["}"]
            text = join_tokens(rng, row, rng.choice([0, 0.02]))
            width = rng.choice(WIDTHS)
            found = answer(text, width)
            if found == [-6]:
                continue
            program = Reference(text)
            cost = cost_of(as_words(found[2:]), width)
            for _ in range(20):
                other = program.lay_out(program.random_choice(rng))
                self.assertLessEqual(cost, cost_of(other, width), text)


if __name__ == "__main__":
    unittest.main()
