"""Outlines: each declaration's kind, its name's place, the lines of its first and of its last token."""
import random
import unittest

from laidout.layouts import outline
from tests.helper import (as_bytes, join_tokens, laid, outline_answer, outline_of, random_texts, random_tokens,
                          small_texts, steps_of)
from tests.test_example import BY_20, BY_80, PROGRAM

LET, RECORD, ACCOUNT, FN = 128, 129, 130, 131


class Outline(unittest.TestCase):
    def outlined(self, text, *rows):
        """Each row: a declaration's kind, the name whose first place in the text is told, its lines."""
        found = [0, len(rows)]
        for kind, name, first, last in rows:
            found += [kind, text.index(name), first, last]
        self.assertEqual(outline_answer(text), found, text)
        self.assertEqual(outline_of(text), found, text)

    def test_kinds(self):
        self.outlined("module a let kk = 1", (LET, "kk", 0, 0))
        self.outlined("module a record rr {}", (RECORD, "rr", 0, 0))
        self.outlined("module a account bb AB", (ACCOUNT, "bb", 0, 0))
        self.outlined("module a fn ff() {}", (FN, "ff", 0, 0))
        self.assertEqual(outline_answer("module a let k=1"), [0, 1, 128, 13, 0, 0])
        self.assertEqual(outline_answer("module a fn f(){} account g AB"), [0, 2, 131, 12, 0, 0, 130, 26, 0, 0])

    def test_example(self):
        self.outlined(PROGRAM, (LET, "k=", 0, 0), (FN, "f(x", 0, 0))
        self.outlined(BY_80, (LET, "k =", 3, 3), (FN, "f(x", 5, 7))
        self.outlined(BY_20, (LET, "k =", 3, 3), (FN, "f(\n  x", 5, 12))

    def test_none(self):
        for text in ("module a", "module a\n", "# let b = 1\nmodule a", "module a use b use c\n# fn f() {}",
                     "module lets use fns use record_ use account1"):
            self.outlined(text)
            self.assertEqual(outline_answer(text), [0, 0])

    def test_what_is_no_declaration(self):
        self.outlined("module a fn ff() {\nlet b = 1\nlet c: text = 2\nif b { let d = 1 }\n}", (FN, "ff", 0, 4))
        self.outlined("module a let kk: account = 1\nlet ll: fn(fn() -> account) -> fn() = 2",
                      (LET, "kk", 0, 0), (LET, "ll", 1, 1))
        self.outlined("module a record rr {\nx: account,\ny: fn(account)\n}", (RECORD, "rr", 0, 3))
        self.outlined("module a fn ff(\nx: account\n)\n->\nfn() {}", (FN, "ff", 0, 4))
        self.outlined("module a let kk = 1 as fn()\n-> account", (LET, "kk", 0, 1))
        self.outlined("module a fn ff() { match a { is account b {} is fn() c { let d = 1 } } }", (FN, "ff", 0, 0))
        self.outlined("module a let kk = \"let b = 1\"\n# let c = 1\n", (LET, "kk", 0, 0))
        self.outlined("module a let kk = lets.record_(fns)", (LET, "kk", 0, 0))

    def test_lines(self):
        self.outlined("module a\nlet bb = 1\nlet cc = 2\n\n\nlet dd\n=\n3\n\nrecord ee\n{\n}\n",
                      (LET, "bb", 1, 1), (LET, "cc", 2, 2), (LET, "dd", 5, 7), (RECORD, "ee", 9, 11))
        self.outlined("module a let bb = 1 let cc = 2 fn dd() {} account ee AB",
                      (LET, "bb", 0, 0), (LET, "cc", 0, 0), (FN, "dd", 0, 0), (ACCOUNT, "ee", 0, 0))
        self.outlined("module a\nlet bb = 1 let cc\n= 2 let dd = f(\n1\n) let ee = 1\n",
                      (LET, "bb", 1, 1), (LET, "cc", 1, 2), (LET, "dd", 2, 4), (LET, "ee", 4, 4))
        self.outlined("\n\n;\nmodule\na\n\nfn\nff\n(\n)\n{\n}", (FN, "ff", 6, 11))
        self.outlined("module a fn ff() {\n  g()\n} fn hh() {\n}", (FN, "ff", 0, 2), (FN, "hh", 2, 3))

    def test_names_on_later_lines(self):
        self.outlined("module a\nlet\n\nbb = 1\nrecord\ncc {}\naccount\n;\n dd AB\nfn\nee() {}",
                      (LET, "bb", 1, 3), (RECORD, "cc", 4, 5), (ACCOUNT, "dd", 6, 8), (FN, "ee", 9, 10))
        self.outlined("module a let # let aa = 1\nbb = 1", (LET, "bb", 0, 1))
        self.outlined("module a account bb\nAB", (ACCOUNT, "bb", 0, 1))

    def test_comments(self):
        # They're no tokens: no declaration begins or ends with one.
        self.outlined("module a\n# one\n\n# two\nlet bb = 1 # three\n# four\n\n# five\n", (LET, "bb", 4, 4))
        self.outlined("# one\nmodule a # two\nlet bb # three\n# four\n= 1\n# five\nlet cc = 2\n# six",
                      (LET, "bb", 2, 4), (LET, "cc", 6, 6))
        self.outlined("module a fn ff() { # one\n# two\n} # three\n# four\n", (FN, "ff", 0, 2))
        self.outlined("module a let bb = f(1\n# one\n)\n# two\n\n\n", (LET, "bb", 0, 2))
        self.outlined("module a let bb = 1;\n#\n#\n#\nrecord cc {};\n#\n#", (LET, "bb", 0, 0), (RECORD, "cc", 4, 4))

    def test_the_last_one(self):
        self.outlined("module a let bb = 1\n\n\n", (LET, "bb", 0, 0))
        self.outlined("module a let bb = a\n+\nb\n\n", (LET, "bb", 0, 2))
        self.outlined("module a let bb\n=\n1", (LET, "bb", 0, 2))
        self.outlined("module a fn bb() {\n\n}\n\n;;", (FN, "bb", 0, 2))

    def test_names(self):
        # The name's own place, wherever else the same name stands.
        self.assertEqual(outline_answer("module k use k let k=k let k=k"), [0, 2, 128, 19, 0, 0, 128, 27, 0, 0])
        self.assertEqual(outline_answer("module a let\n  k=1"), [0, 1, 128, 15, 0, 1])

    def test_long_lines(self):
        self.outlined("module a" + "\n" * 4070 + "let bb=1", (LET, "bb", 4070, 4070))
        self.outlined("module a let bb" + "\n" * 4070 + "=1", (LET, "bb", 0, 4070))


class Refusals(unittest.TestCase):
    def test_sizes(self):
        for extra in (" ", "\n", ";", "#"):
            text = "module a" + extra * 4088
            self.assertEqual(outline_answer(text), [0, 0])
            self.assertEqual(outline_answer(text + extra), [-1])
            self.assertEqual(outline_answer(text + extra * 904), [-1])

    def test_order(self):
        self.assertEqual(outline_answer("(" * 4097), [-1])
        self.assertEqual(outline_answer("!" * 4097), [-1])
        self.assertEqual(outline_answer("(" * 4096), [-6])
        self.assertEqual(outline_answer("(" * 101), [-6])
        self.assertEqual(outline_answer("(" * 100), [-2, 2, 0])
        self.assertEqual(outline_answer("module a let k=" + "-" * 100 + "a"), [0, 1, 128, 13, 0, 0])
        self.assertEqual(outline_answer("module a let k=" + "-" * 101 + "a"), [-6])
        self.assertEqual(outline_answer("module a let k=" + "-" * 101), [-6])

    def test_faults(self):
        # What was read before the fault is not told.
        for text, numbers in (("", [-2, 3, 0]), ("module", [-2, 3, 6]), ("module a let b=1 let", [-2, 3, 20]),
                              ("module a let b=1 01", [-2, 1, 17]), ("module a let b=1 )", [-2, 2, 17]),
                              ("module a let b=\"", [-2, 3, 16]), ("module a use b let c=1 use d", [-2, 2, 23]),
                              ("module a fn f() { record r {} }", [-2, 2, 18])):
            self.assertEqual(outline_answer(text), numbers, text)
        self.assertEqual(outline([200]), [-2, 1, 0])


class Random(unittest.TestCase):
    def test_many(self):
        for rng, text in random_texts(601, 400, [0, 0.05, 0.2, 0.4]):
            self.assertEqual(outline_answer(text), outline_of(text), text)
        for rng, text in small_texts(602, 300):
            self.assertEqual(outline_answer(text), outline_of(text), text)

    def test_many_declarations(self):
        rng = random.Random(603)
        for _ in range(200):
            row = ["module", "a"]
            for _ in range(rng.randint(0, 12)):
                row += random_tokens(rng, rng.choice([5, 12]), "decl")
            text = join_tokens(rng, row, rng.choice([0, 0.1, 0.3]))
            if len(text) <= 4096:
                self.assertEqual(outline_answer(text), outline_of(text), text)

    def test_of_layouts(self):
        for rng, text in random_texts(604, 300, [0, 0.1, 0.3]):
            layout = laid(text, rng.choice([20, 40, 80]))
            if len(layout) <= 4096:
                before, after = outline_answer(text), outline_answer(layout)
                self.assertEqual(after, outline_of(layout))
                self.assertEqual((before[:2], before[2::4]), (after[:2], after[2::4]))
                # In a layout each declaration begins behind the one before it.
                lines = list(zip(after[4::4], after[5::4]))
                self.assertEqual(lines, sorted(lines))
                self.assertTrue(all(one[1] < other[0] for one, other in zip(lines, lines[1:])))


class Large(unittest.TestCase):
    def test_many_declarations(self):
        for declaration, kind, name in (("let a=b ", LET, 4), ("let a=\"\"", LET, 4), ("fn a(){}", FN, 3),
                                        ("record a{}", RECORD, 7), ("account a AA ", ACCOUNT, 8),
                                        ("let\na\n=1\n", LET, 4)):
            count = (4096 - 9) // len(declaration)
            text = "module a " + declaration * count
            lines = declaration.count("\n")
            found = [0, count]
            for turn in range(count):
                begin = 9 + turn * len(declaration)
                found += [kind, begin + name, turn * lines, turn * lines + max(0, lines - 1)]
            self.assertEqual(outline_answer(text), found)

    def test_not_slow(self):
        # What takes twice as long a text takes about twice the steps.
        for piece in ("let a=b ", "fn a(){}", "#\n", "\n", "let\n#\na\n=\n1\n"):
            rows = []
            for size in (1000, 2000, 4000):
                numbers = as_bytes("module a " + piece * (size // len(piece)))
                rows.append(steps_of(outline, numbers))
            self.assertLess(rows[1], 2.2 * rows[0])
            self.assertLess(rows[2], 2.2 * rows[1])


if __name__ == "__main__":
    unittest.main()
