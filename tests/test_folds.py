"""Folds: pairs of brackets over several lines and rows of comments, their lines, and how many pairs they lie in."""
import random
import unittest

from laidout.layouts import folds
from tests.helper import (as_bytes, folds_answer, folds_of, join_tokens, laid, random_texts, random_tokens, small_texts,
                          steps_of)
from tests.test_example import BY_20, BY_80, PROGRAM

FN = "module a fn f(){"
LET = "module a let k="


class Folds(unittest.TestCase):
    def folded(self, text, *rows):
        """Each row: first line, last line, how many folds of brackets it lies in."""
        found = [0, len(rows)]
        for row in rows:
            found += row
        self.assertEqual(folds_answer(text), found, text)
        self.assertEqual(folds_of(text), found, text)

    def test_example(self):
        self.folded(PROGRAM)
        self.folded(BY_80, (5, 7, 0))
        self.folded(BY_20, (5, 7, 0), (7, 12, 0), (8, 11, 1))

    def test_none(self):
        for text in ("module a", "module a\n\n\nuse b\n", LET + "1\n+\n2\n", "# one\nmodule a\n# two\n", "# one\nmodule a"):
            self.folded(text)
            self.assertEqual(folds_answer(text), [0, 0])


class Brackets(Folds):
    def test_on_one_line(self):
        self.folded(LET + "f(1)[2]+(3)+[4]")
        self.folded("module a record r{x:t}\nrecord s {}\nfn g[t](x: t) { h(1) }\n")
        self.folded("module a\nlet k\n= (1)\n+ [2]\n")
        self.folded("module a fn\nf\n() {}")

    def test_each_sort(self):
        self.folded(LET + "(\n1)", (0, 1, 0))
        self.folded(LET + "f(\n1)", (0, 1, 0))
        self.folded(LET + "[1\n]", (0, 1, 0))
        self.folded(LET + "a[\n1\n]", (0, 2, 0))
        self.folded(LET + "[1 ..\n\n\n2]", (0, 3, 0))
        self.folded(LET + "only(\nzero)", (0, 1, 0))
        self.folded(LET + "make r(\nx: 1)", (0, 1, 0))
        self.folded("module a record r {\nx: t\n}", (0, 2, 0))
        self.folded("module a record r {\n}", (0, 1, 0))
        self.folded("module a fn f[t\n,u](\nx: t) {\n\n}", (0, 1, 0), (1, 2, 0), (2, 4, 0))
        self.folded("module a let k: fn(t,\nu) -> v = 1", (0, 1, 0))
        self.folded(FN + "if a {\n}\nelse {\n}\n}", (0, 4, 0), (0, 1, 1), (2, 3, 1))
        self.folded(FN + "match a {\nis t b {\n}\n}}", (0, 3, 0), (0, 3, 1), (1, 2, 2))
        self.folded(FN + "\n}", (0, 1, 0))

    def test_lines(self):
        # Where the closing one stands is told, whatever is on the lines before, between and behind.
        self.folded("\n\nmodule a\n\nlet k =\n\n(\n1\n\n)\n\n+\n2\n", (6, 9, 0))
        self.folded(LET + "f\n(1\n)", (1, 2, 0))
        self.folded(LET + "f(1,;;;\n2)", (0, 1, 0))
        self.folded(LET + "(" + "\n" * 4070 + "1)", (0, 4070, 0))

    def test_within(self):
        self.folded(LET + "(\n(\n(\n1\n)\n)\n)", (0, 6, 0), (1, 5, 1), (2, 4, 2))
        self.folded(LET + "((\n(1\n)))", (0, 2, 0), (0, 2, 1), (1, 2, 2))
        self.folded(LET + "f([\n1], (2\n))", (0, 2, 0), (0, 1, 1), (1, 2, 1))
        self.folded(LET + "f(\ng(1,\n2),\n[3,\n4])", (0, 4, 0), (1, 2, 1), (3, 4, 1))

    def test_pairs_on_one_line_count_for_nothing(self):
        self.folded(LET + "f(\n(g(1)),\n[(2)]\n)", (0, 3, 0))
        self.folded(LET + "(f(1)[2](\n3))", (0, 1, 0), (0, 1, 1))
        self.folded(LET + "(1) + (2) + (\n3) + (4)", (0, 1, 0))
        self.folded(FN + "if (a) { b((1)) }\nif (a) { b(\n(1)) }\n}", (0, 3, 0), (1, 2, 1), (1, 2, 2))
        self.folded(FN + "g() h((1),\n2)}", (0, 1, 0), (0, 1, 1))

    def test_beside(self):
        self.folded(LET + "f(\n1)(\n2)[\n3]", (0, 1, 0), (1, 2, 0), (2, 3, 0))
        self.folded(LET + "(\n1) + (2) + (\n3)", (0, 1, 0), (1, 2, 0))
        self.folded(FN + "\n} fn g() {\n} fn h() {\n}", (0, 1, 0), (1, 2, 0), (2, 3, 0))
        self.folded(FN + "if a {\n} else {\n}\nwhile a {\n}}", (0, 4, 0), (0, 1, 1), (1, 2, 1), (3, 4, 1))

    def test_order(self):
        # In the order of the opening ones, though inner ones close before.
        self.folded(LET + "f(g(\n1), [\n2],\n3)", (0, 3, 0), (0, 1, 1), (1, 2, 1))
        self.folded("module a fn f(\n) {\n} record r {\n}", (0, 1, 0), (1, 2, 0), (2, 3, 0))

    def test_within_texts_and_comments(self):
        self.folded(LET + "\"(\"\nlet m = \")\"")
        self.folded(LET + "1 # (\n# more (\n# )\n", (1, 2, 0))
        self.folded(LET + "1 # (\nlet m = 2 # )\n")
        self.folded(LET + "f( # )\n\"]\") # [", (0, 1, 0))
        self.folded(LET + "[\"]\", # ]\n\"[\"]", (0, 1, 0))


class Comments(Folds):
    def test_rows(self):
        self.folded("module a\n# one\n")
        self.folded("module a\n# one\n# two\n", (1, 2, 0))
        self.folded("module a\n# one\n# two\n# three", (1, 3, 0))
        self.folded("module a\n  # one\n;# two\n#\n ; ; # four", (1, 4, 0))
        self.folded("module a" + "\n#" * 2000, (1, 2000, 0))
        self.folded("module a\n#   \n#  ;  \n", (1, 2, 0))

    def test_behind(self):
        # A comment behind is none of a row, wherever it stands.
        self.folded("module a # one\n# two\n")
        self.folded("module a # one\n# two\n# three", (1, 2, 0))
        self.folded("module a # one\nuse b # two\nuse c # three")
        self.folded("module a\n# one\nuse b # two\n# three")
        self.folded("module a\n# one\n# two\nuse b # three\n# four", (1, 2, 0))
        self.folded("module a\n# one\n# two\nuse b # three\n# four\n# five", (1, 2, 0), (4, 5, 0))
        self.folded(FN + " # one\n# two\n# three\n}", (0, 3, 0), (1, 2, 1))

    def test_the_first(self):
        # The first element is by itself, as none is before it.
        self.folded("# one\n# two\nmodule a", (0, 1, 0))
        self.folded("   ;# one\n# two\nmodule a", (0, 1, 0))
        self.folded("\n\n# one\n# two\n# three\nmodule a", (2, 4, 0))
        self.folded("# one\nmodule a # two\n# three\n# four", (2, 3, 0))
        self.folded("#\nmodule a")

    def test_between(self):
        self.folded("module a\n# one\n\n# two\n")
        self.folded("module a\n# one\n;\n# two\n")
        self.folded("module a\n# one  \n  \n# two\n")
        self.folded("module a\n# one\n# two\n\n# three\n# four\n", (1, 2, 0), (4, 5, 0))
        self.folded("module a\n# one\n# two\n\n# three\n", (1, 2, 0))
        self.folded("module a\n# one\nuse b\n# two\n")
        self.folded("module a\n# one\n# two\nuse b\n# three\n# four\n", (1, 2, 0), (4, 5, 0))
        self.folded("module\n# one\na\n# two\nuse\n# three\n# four\nb", (5, 6, 0))

    def test_before_and_behind(self):
        self.folded("# one\n# two\nmodule a\n# three\n# four\nlet k = 1\n# five\n# six\n", (0, 1, 0), (3, 4, 0), (6, 7, 0))
        self.folded("module a\n\n\n# one\n# two\n\n\n", (3, 4, 0))
        self.folded("module a\n# one\n# two", (1, 2, 0))

    def test_within_brackets(self):
        self.folded(LET + "f(\n# one\n# two\n1)", (0, 3, 0), (1, 2, 1))
        self.folded(LET + "f(1\n# one\n# two\n)", (0, 3, 0), (1, 2, 1))
        self.folded(LET + "[[\n# one\n# two\n1],\n# three\n# four\n2]\n# five\n# six\n",
                    (0, 6, 0), (0, 3, 1), (1, 2, 2), (4, 5, 1), (7, 8, 0))
        self.folded(FN + "\n# one\n# two\ng()\n# three\n# four\n}", (0, 6, 0), (1, 2, 1), (4, 5, 1))
        # No token stands between them, so all of a row lie in the same pairs.
        self.folded(LET + "(1\n# one\n)\n# two\n", (0, 2, 0))
        self.folded(LET + "(1\n# one\n# two\n)\n# three\n# four", (0, 3, 0), (1, 2, 1), (4, 5, 0))

    def test_rows_count_for_nothing(self):
        self.folded("# one\n# two\nmodule a let k=(\n1)", (0, 1, 0), (2, 3, 0))
        self.folded(FN + "\n# one\n# two\nif a {\n# three\n# four\n}\n}", (0, 7, 0), (1, 2, 1), (3, 6, 1), (4, 5, 2))

    def test_order(self):
        self.folded("# one\n# two\nmodule a record r {\n# three\n# four\n}\n# five\n# six\nfn f(\n) {\n# seven\n# eight\n}",
                    (0, 1, 0), (2, 5, 0), (3, 4, 1), (6, 7, 0), (8, 9, 0), (9, 12, 0), (10, 11, 1))


class Refusals(unittest.TestCase):
    def test_sizes(self):
        for extra, numbers in ((" ", [0, 0]), ("\n", [0, 0]), (";", [0, 0]), ("\n#", [0, 1, 1, 2044, 0])):
            text = "module a" + extra * (4088 // len(extra))
            self.assertEqual(len(text), 4096)
            self.assertEqual(folds_answer(text), numbers)
            self.assertEqual(folds_answer(text + " "), [-1])
            self.assertEqual(folds_answer(text + " " * 904), [-1])

    def test_order(self):
        self.assertEqual(folds_answer("(" * 4097), [-1])
        self.assertEqual(folds_answer("!" * 4097), [-1])
        self.assertEqual(folds_answer("(" * 4096), [-6])
        self.assertEqual(folds_answer("(" * 101), [-6])
        self.assertEqual(folds_answer("(" * 100), [-2, 2, 0])
        self.assertEqual(folds_answer(LET + "-" * 100 + "a"), [0, 0])
        self.assertEqual(folds_answer(LET + "-" * 101 + "a"), [-6])
        self.assertEqual(folds_answer(LET + "(\n" * 100 + "a" + ")" * 100)[:2], [0, 100])
        self.assertEqual(folds_answer(LET + "(\n" * 101 + "a" + ")" * 101), [-6])

    def test_faults(self):
        # What was read before the fault is not told; brackets may be open or closed as they like there.
        for text, numbers in (("", [-2, 3, 0]), ("# one\n# two\n", [-2, 3, 12]), (LET + "(\n1", [-2, 3, 18]),
                              (LET + "(\n1]", [-2, 2, 18]), (LET + "(\n1))", [-2, 2, 19]), (")", [-2, 2, 0]),
                              (LET + "(\n1) 01", [-2, 1, 20]), (LET + "\"\n", [-2, 1, 16]), (LET + "\"", [-2, 3, 16])):
            self.assertEqual(folds_answer(text), numbers, text)
        self.assertEqual(folds([200]), [-2, 1, 0])


class Random(unittest.TestCase):
    def test_many(self):
        rows = {0: 0, 1: 0, 2: 0}
        for rng, text in random_texts(701, 400, [0, 0.05, 0.2, 0.4]):
            found = folds_answer(text)
            self.assertEqual(found, folds_of(text), text)
            for depth in found[4::3]:
                rows[min(depth, 2)] += 1
        self.assertGreater(min(rows.values()), 20, rows)
        for rng, text in small_texts(702, 400):
            self.assertEqual(folds_answer(text), folds_of(text), text)

    def test_many_comments(self):
        rng = random.Random(703)
        for _ in range(300):
            row = "module a fn f ( ) {".split() + random_tokens(rng, 8, "statement") + ["}"]
            text = join_tokens(rng, row, 0.7)
            if len(text) <= 4096:
                self.assertEqual(folds_answer(text), folds_of(text), text)

    def test_of_layouts(self):
        for rng, text in random_texts(704, 300, [0, 0.1, 0.3]):
            layout = laid(text, rng.choice([20, 40, 80]))
            if len(layout) <= 4096:
                self.assertEqual(folds_answer(layout), folds_of(layout), layout)


class Large(unittest.TestCase):
    def test_deep(self):
        text = LET + "(\n" * 100 + "a" + "\n)" * 100
        found = [0, 100]
        for level in range(100):
            found += [level, 200 - level, level]
        self.assertEqual(folds_answer(text), found)
        text = FN + "if a{\n" * 98 + "}" * 98 + "}"
        found = [0, 99, 0, 98, 0]
        for level in range(98):
            found += [level, 98, level + 1]
        self.assertEqual(folds_answer(text), found)
        self.assertEqual(folds_answer(LET + "(" * 100 + "a" + ")" * 100), [0, 0])

    def test_many(self):
        text = LET + "[" + "[\n],(1\n)," * 400 + "1]"
        found = [0, 801, 0, 800, 0]
        for turn in range(800):
            found += [turn, turn + 1, 1]
        self.assertEqual(folds_answer(text), found)
        text = "module a" + "\n#\n#\n" * 800
        found = [0, 800]
        for turn in range(800):
            found += [3 * turn + 1, 3 * turn + 2, 0]
        self.assertEqual(folds_answer(text), found)
        self.assertEqual(folds_answer(LET + "[" + "[],(1)," * 580 + "1]"), [0, 0])
        self.assertEqual(folds_answer("module a " + "fn a(){}" * 510), [0, 0])
        self.assertEqual(folds_answer("module a " + "fn a(){\n}" * 450)[:5], [0, 450, 0, 1, 0])

    def test_not_slow(self):
        # What takes twice as long a text takes about twice the steps.
        for before, piece, behind in (("", "#\n", "module a"), ("module a", "\n", ""), (LET + "[", "[\n],", "1]"),
                                      ("module a ", "fn a(){}", ""), (LET + "[", "[\n#\n#\n],", "1]")):
            rows = []
            for size in (1000, 2000, 4000):
                count = size // len(piece)
                text = before + piece * count + behind
                rows.append(steps_of(folds, as_bytes(text)))
            self.assertLess(rows[1], 2.2 * rows[0])
            self.assertLess(rows[2], 2.2 * rows[1])


if __name__ == "__main__":
    unittest.main()
