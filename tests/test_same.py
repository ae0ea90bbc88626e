"""Whether two texts have the same elements in the same order."""
import random
import unittest

from laidout.layouts import same
from tests.helper import (as_bytes, join_tokens, laid, other_gaps, random_texts, random_tokens, same_answer, split_text)

FN = "module a fn f(){"
LET = "module a let k="


class Same(unittest.TestCase):
    def alike(self, text, *others):
        for other in others:
            self.assertEqual(same_answer(text, other), [0, 1], (text, other))
            self.assertEqual(same_answer(other, text), [0, 1], (text, other))

    def unlike(self, text, *others):
        for other in others:
            self.assertEqual(same_answer(text, other), [0, 0], (text, other))
            self.assertEqual(same_answer(other, text), [0, 0], (text, other))

    def test_the_same_text(self):
        for text in ("module a", "# one\nmodule a # two", LET + "f(1, [2])", FN + "say a,b # c\n}"):
            self.alike(text, text)
            numbers = as_bytes(text)
            self.assertEqual(same(numbers, numbers), [0, 1])

    def test_a_text_and_its_layout(self):
        for text in ("module a", "# one  \nmodule a# two", LET + "f(1,[2])", FN + "say a,b # c\n}"):
            for width in (20, 80):
                self.alike(text, laid(text, width))

    def test_gaps(self):
        self.alike("module a use b", "module  a use b", "module\na\nuse\nb", "module;a;use;b;", "\n;  module a use b",
                   "module a use b  \n;", "module a\n\n\nuse b", "module a;\n;use b\n")
        self.alike(LET + "f(1,[2])", "module a let k = f ( 1 , [ 2 ] )", "module a let k=f(\n1\n,\n[2;])")

    def test_gaps_at_comments(self):
        self.alike("module a # one", "module a # one   ", "module a# one\n", "module a\n# one", "module a\n\n\n  # one \n\n")
        self.alike("#\nmodule a", "#   \nmodule a", "\n#\n\n module a", "; #  \n\nmodule a")
        # Behind or by itself: it's the same comment.
        self.alike("module a # one\n# two", "module a\n# one\n\n# two  ", "module a # one  \n  # two")

    def test_one_byte_of_a_token(self):
        self.unlike("module a", "module b", "module aa", "module a_", "module a0")
        self.unlike(LET + "1", LET + "2", LET + "a", LET + "A1", LET + "11", LET + "-1")
        self.unlike(LET + "a<b", LET + "a>b", LET + "a<=b", LET + "a==b")
        self.unlike(LET + "a/b", LET + "a//b", LET + "a*b")
        self.unlike(LET + "\"a b\"", LET + "\"a  b\"", LET + "\"ab\"", LET + "\"a b \"", LET + "\"A b\"", LET + "\"a;b\"")
        self.unlike("module a account b AB", "module a account b AC", "module a account b ABC")

    def test_one_byte_of_a_comment(self):
        self.unlike("module a # one", "module a # ona", "module a #one", "module a # one.", "module a #  one",
                    "module a # one;", "module a # One", "module a #", "module a ## one")
        self.unlike("module a #", "module a # #", "module a #;")

    def test_a_comment_more(self):
        self.unlike("module a", "module a #", "#\nmodule a", "module #\na")
        self.unlike("module a # one", "module a # one\n# one", "module a")
        self.unlike("module a # one\n# two", "module a # one # two", "module a # two\n# one", "module a # one")

    def test_a_comments_place(self):
        self.unlike("module a # one\nuse b", "module # one\na use b", "module a use b # one", "# one\nmodule a use b",
                    "module a use # one\nb")
        self.unlike(LET + "f( # one\n1)", LET + "f(1 # one\n)", LET + "f(1) # one")
        self.alike("module a # one\nuse b", "module a\n# one\nuse b")

    def test_where_tokens_end(self):
        # All bytes of both texts' elements, put together, are the same.
        for text, other in ((FN + "say a b()}", FN + "say ab()}"), (FN + "return a()}", FN + "returna()}"),
                            ("module a use b use c", "module a use busec"), (LET + "not a", LET + "nota"),
                            (LET + "1 as t 5", LET + "1 as t5"), (LET + "1 as packed 5 6", LET + "1 as packed 56"),
                            ("module a #b#c", "module a #b\n#c"), ("module a ##", "module a\n#\n#")):
            pieces = [[part[1] for part in split_text(words)] for words in (text, other)]
            self.assertEqual("".join(pieces[0]), "".join(pieces[1]))
            self.unlike(text, other)
        self.alike(LET + "a - - b", LET + "a--b")
        self.alike(FN + "f()g()}", FN + "f() g ( ) }")

    def test_the_same_meaning(self):
        # Other bytes are other elements.
        self.unlike(LET + "1.5", LET + "1.50", LET + "1.5d", LET + "15e-1d")
        self.unlike(LET + "7p", LET + "07p", LET + "007p")
        self.unlike(LET + "1e5m", LET + "10e4m", LET + "100000m")
        self.unlike(LET + "\"\\\\\"", LET + "\"\\\"\"", LET + "\"\\n\"")
        self.unlike(LET + "a", LET + "(a)", LET + "((a))")
        self.unlike(LET + "a+b", LET + "b+a", LET + "(a+b)")
        self.unlike(LET + "not a==b", LET + "a!=b")

    def test_order(self):
        self.unlike("module a use b use c", "module a use c use b")
        self.unlike("module a let b=1 let c=2", "module a let c=2 let b=1")
        self.unlike(LET + "f(a,b)", LET + "f(b,a)", LET + "a(f,b)")

    def test_one_more_at_an_end(self):
        self.unlike("module a", "module a use b", "module a let b=1")
        self.unlike("module a let b=1", "module a let b=1 let b=1", "module a let b=1+1")
        self.unlike(FN + "f()}", FN + "f()f()}", FN + "f()}fn f(){f()}")


class Refusals(unittest.TestCase):
    FINE = "module a"
    LONG = "module a" + " " * 4089
    DEEP = "(" * 101
    FAULTY = ("module a let", [-2, 3, 12])
    WRONG = ("module 01", [-2, 1, 7])

    def test_sizes(self):
        for extra in (" ", "\n", ";", "#"):
            text = self.FINE + extra * 4088
            self.assertEqual(same_answer(text, text), [0, 1])
            self.assertEqual(same_answer(text, self.FINE), [0, 0 if extra == "#" else 1])
            self.assertEqual(same_answer(self.FINE, text), [0, 0 if extra == "#" else 1])
            self.assertEqual(same_answer(text + extra, self.FINE), [-1])
            self.assertEqual(same_answer(self.FINE, text + extra), [-1])
            self.assertEqual(same_answer(text + extra, text + extra), [-1])
            self.assertEqual(same_answer(text + extra * 904, text + extra * 904), [-1])

    def test_depths(self):
        for sign in ("-", "not "):
            edge, deep = LET + sign * 100 + "a", LET + sign * 101 + "a"
            self.assertEqual(same_answer(edge, edge), [0, 1])
            self.assertEqual(same_answer(edge, self.FINE), [0, 0])
            self.assertEqual(same_answer(self.FINE, edge), [0, 0])
            for other in (edge, deep, self.FINE, self.FAULTY[0], self.WRONG[0], "(" * 100):
                self.assertEqual(same_answer(deep, other), [-6])
                self.assertEqual(same_answer(other, deep), [-6])

    def test_faults(self):
        for faulty, numbers in (self.FAULTY, self.WRONG, ("module a b", [-2, 2, 9]), ("", [-2, 3, 0]), ("!", [-2, 1, 0])):
            self.assertEqual(same_answer(faulty, self.FINE), numbers)
            self.assertEqual(same_answer(self.FINE, faulty), numbers)
            self.assertEqual(same_answer(faulty, faulty), numbers)

    def test_the_first_texts_fault_first(self):
        (faulty, numbers), (wrong, others) = self.FAULTY, self.WRONG
        self.assertEqual(same_answer(faulty, wrong), numbers)
        self.assertEqual(same_answer(wrong, faulty), others)
        # Its own place, wherever the other's is.
        self.assertEqual(same_answer("module a b", "x"), [-2, 2, 9])
        self.assertEqual(same_answer("x", "module a b"), [-2, 2, 0])

    def test_order(self):
        # Both texts' -1, then both texts' -6, then the faults.
        for other in (self.FINE, self.LONG, self.DEEP, self.FAULTY[0], self.WRONG[0], ""):
            self.assertEqual(same_answer(self.LONG, other), [-1])
            self.assertEqual(same_answer(other, self.LONG), [-1])
            self.assertEqual(same_answer("(" * 4097, other), [-1])
            self.assertEqual(same_answer(other, "!" * 4097), [-1])
        for other in (self.FINE, self.DEEP, self.FAULTY[0], self.WRONG[0], "", "!"):
            self.assertEqual(same_answer(self.DEEP, other), [-6])
            self.assertEqual(same_answer(other, self.DEEP), [-6])

    def test_bytes(self):
        self.assertEqual(same([200], as_bytes("module a")), [-2, 1, 0])
        self.assertEqual(same(as_bytes("module a"), as_bytes("module a") + [0]), [-2, 1, 8])
        self.assertEqual(same([], []), [-2, 3, 0])


class Random(unittest.TestCase):
    def test_f1_of_a_text_and_its_layout(self):
        for rng, text in random_texts(501, 400, [0, 0, 0.05, 0.2, 0.4]):
            layout = laid(text, rng.choice([20, 30, 50, 80, 255]))
            if len(layout) <= 4096:
                self.assertEqual(same_answer(text, layout), [0, 1], text)
                self.assertEqual(same_answer(layout, text), [0, 1], text)

    def test_other_gaps(self):
        for rng, text in random_texts(502, 300, [0, 0.05, 0.2, 0.4]):
            other = other_gaps(rng, text)
            if len(other) <= 4096:
                self.assertEqual(same_answer(text, other), [0, 1], text)

    def test_rows_with_a_change(self):
        rng = random.Random(503)
        found = {0: 0, 1: 0}
        for _ in range(800):
            row = random_tokens(rng, 15)
            other = list(row)
            change = rng.choice(["none", "name", "number", "comment", "more"])
            at = rng.randrange(len(row))
            if change == "name":
                other = [token + "0" if index == at and token[0] in "abgkxz" else token
                         for index, token in enumerate(row)]
            elif change == "number":
                other = ["8" + token if token[0] in "123456789" else token for token in row]
            elif change == "more":
                other += "let k = 1".split()
            text, second = join_tokens(rng, row), join_tokens(rng, other)
            if change == "comment":
                second = join_tokens(rng, other[:at]) + " #\n" + join_tokens(rng, other[at:]) if at else "#\n" + second
            answer = same_answer(text, second)
            if answer[0] == 0:
                alike = [part[1] for part in split_text(text)] == [part[1] for part in split_text(second)]
                self.assertEqual(answer, [0, int(alike)], (text, second))
                found[answer[1]] += 1
        self.assertGreater(min(found.values()), 100, found)

    def test_pairs(self):
        texts = [text for _, text in random_texts(504, 30, [0, 0.1])]
        pieces = [[part[1] for part in split_text(text)] for text in texts]
        for text, row in zip(texts, pieces):
            for other, second in zip(texts, pieces):
                self.assertEqual(same_answer(text, other), [0, int(row == second)])


if __name__ == "__main__":
    unittest.main()
