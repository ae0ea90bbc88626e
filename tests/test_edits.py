"""Edits: of each gap that's other in the layout where it begins, how many bytes it has, what it's to have."""
import random
import unittest

from laidout.layouts import edits, format_text
from tests.helper import (as_bytes, as_words, edits_answer, edits_to, gaps_of, join_tokens, laid, make_edits,
                          random_texts, random_tokens, split_edits, split_text)
from tests.test_example import BY_20, BY_80, PROGRAM


class Edits(unittest.TestCase):
    def edits(self, text, *rows, width=80):
        """Each row: where the gap begins, what stands in it, what's to stand there."""
        found = [0, len(rows)]
        for begin, gap, new in rows:
            self.assertEqual(text[begin:begin + len(gap)], gap)
            found += [begin, len(gap), len(new)] + as_bytes(new)
        self.assertEqual(edits_answer(text, width), found, text)
        layout = as_words(make_edits(as_bytes(text), split_edits(found)))
        self.assertEqual(layout, laid(text, width))

    def test_example(self):
        self.assertEqual(edits_answer(PROGRAM), edits_to(PROGRAM, BY_80))
        self.assertEqual(edits_answer(PROGRAM, 20), edits_to(PROGRAM, BY_20))
        self.assertEqual(edits_answer(BY_80, 20), edits_to(BY_80, BY_20))
        self.assertEqual(edits_answer(BY_20, 80), edits_to(BY_20, BY_80))
        self.edits("module a use b let k=2",
                   (8, " ", "\n"), (14, " ", "\n\n"), (20, "", " "), (21, "", " "), (22, "", "\n"))
        self.edits(BY_80, (32, "", "\n  "), (40, "", "\n"), (64, "", "\n    "), (66, " ", "\n    "), (73, "", "\n  "),
                   width=20)
        self.assertEqual(edits(80, as_bytes("module")), [-2, 3, 6])

    def test_numbers(self):
        self.assertEqual(edits(80, as_bytes("module a")), [0, 1, 8, 0, 1, 10])
        self.assertEqual(edits(80, as_bytes("module  a\n\n")), [0, 2, 6, 2, 1, 32, 9, 2, 1, 10])
        self.assertEqual(edits(80, as_bytes(";module a\n")), [0, 1, 0, 1, 0])
        self.assertEqual(edits(80, as_bytes("module a\nlet b = 1\n")), [0, 1, 8, 1, 2, 10, 10])

    def test_none(self):
        for layout in ("module a\n", "module a\nuse b\n", "# one\nmodule a # two\n# three\n", BY_80,
                       "module a\n\nuse b\n\nlet c = 1\n", "module a #\n"):
            self.edits(layout)
        self.edits(BY_20, width=20)

    def test_before_the_first(self):
        for gap in (" ", "\n", ";", "\n\n\n", " ;\n ", "    "):
            self.edits(gap + "module a\n", (0, gap, ""))
            self.edits(gap + "# one\nmodule a\n", (0, gap, ""))
        self.edits(" module a", (0, " ", ""), (9, "", "\n"))

    def test_behind_the_last(self):
        self.edits("module a", (8, "", "\n"))
        for gap in (" ", ";", "\n\n", " \n", "\n ", "\n;", ";\n", "\n\n\n\n", "  \n\n;"):
            self.edits("module a" + gap, (8, gap, "\n"))
            self.edits("module a\n# one" + gap if ";" not in gap else "module a\n# one\n" + gap,
                       (14, gap if ";" not in gap else "\n" + gap, "\n"))
        self.edits("module a\n")
        self.edits("module a # one", (14, "", "\n"))
        self.edits("module a let b = 1;", (8, " ", "\n\n"), (18, ";", "\n"))

    def test_gaps_without_bytes(self):
        text = "module a\n\nlet k=f(1,2)+[ ]\n"
        self.edits(text, (15, "", " "), (16, "", " "), (20, "", " "), (22, "", " "), (23, "", " "), (24, " ", ""))
        self.edits("module a\n\nlet k = a [ 1 ] . b ( c )\n",
                   (19, " ", ""), (21, " ", ""), (23, " ", ""), (25, " ", ""), (27, " ", ""), (29, " ", ""),
                   (31, " ", ""), (33, " ", ""))
        self.edits("module a\n\nlet k = - 1\n", (19, " ", ""))
        self.edits("module a\n\nrecord r{}\n", (18, "", " "))
        self.edits("module a\n\nrecord r {\n}\n", (20, "\n", ""))
        self.edits("module a\n\nfn f(){}\n", (16, "", " "))
        self.edits("module a\n\nfn f() {a()b()}\n", (18, "", "\n  "), (21, "", "\n  "), (24, "", "\n"))

    def test_semicolons(self):
        self.edits("module a\nuse b;\nuse c\n", (14, ";\n", "\n"))
        self.edits("module a\nuse b;use c\n", (14, ";", "\n"))
        self.edits("module;a\n", (6, ";", " "))
        self.edits("module a;;\n;use b\n", (8, ";;\n;", "\n"))
        self.edits("module a\n\nuse b ; \n;\n use c\n", (15, " ; \n;\n ", "\n\n"))
        self.edits("module a\n\nlet k;=;f;(;)\n", (15, ";", " "), (17, ";", " "), (19, ";", ""), (21, ";", ""))

    def test_lines_ends(self):
        self.edits("module\na\n", (6, "\n", " "))
        self.edits("module a\n\n\nuse b\n", (8, "\n\n\n", "\n\n"))
        self.edits("module a\n\nuse b\n")
        self.edits("module a\n \nuse b\n", (8, "\n \n", "\n\n"))
        self.edits("module a \nuse b\n", (8, " \n", "\n"))
        self.edits("module a\n  use b\n", (8, "\n  ", "\n"))
        self.edits("module a\n\nfn f() {\n\n  a()\n\n  b()\n\n}\n", (18, "\n\n  ", "\n  "), (32, "\n\n", "\n"))
        self.edits("module a\n\nfn f() {\n a()\n   b()\n}\n", (18, "\n ", "\n  "), (23, "\n   ", "\n  "))

    def test_comments_behind(self):
        self.edits("module a# one\nuse b\n", (8, "", " "))
        self.edits("module a  # one\nuse b\n", (8, "  ", " "))
        self.edits("module a;# one\nuse b\n", (8, ";", " "))
        self.edits("module a # one\n\n\nuse b\n", (14, "\n\n\n", "\n\n"))
        self.edits("module # one\na\n", (12, "\n", "\n  "))
        self.edits("module a\n\nlet k = f(a, # one\nb)\n", (20, "", "\n  "), (28, "\n", "\n  "), (30, "", "\n"))

    def test_comments_by_themselves(self):
        self.edits("module a\n  # one\nuse b\n", (8, "\n  ", "\n"))
        self.edits("module a\n# one\n\n\n# two\nuse b\n", (14, "\n\n\n", "\n\n"))
        self.edits("module a\n# one\n  # two\n  use b\n", (14, "\n  ", "\n"), (22, "\n  ", "\n"))
        self.edits("module a\n# one\nlet b = 1\n", (8, "\n", "\n\n"))
        self.edits("module a\n\nfn f() {\n# one\na()\n# two\n}\n",
                   (18, "\n", "\n  "), (24, "\n", "\n  "), (28, "\n", "\n  "))
        self.edits("module a\n   # one\n  # two", (8, "\n   ", "\n"), (17, "\n  ", "\n"), (25, "", "\n"))

    def test_blanks_at_a_comments_end(self):
        # They're the gap's behind it.
        self.edits("module a # one  \nuse b\n", (14, "  \n", "\n"))
        self.edits("module a # one \n\n\nuse b\n", (14, " \n\n\n", "\n\n"))
        self.edits("module a # one ", (14, " ", "\n"))
        self.edits("module a # one  \n", (14, "  \n", "\n"))
        self.edits("module a #  \n  # two  \n", (10, "  \n  ", "\n"), (20, "  \n", "\n"))
        self.edits("#    \nmodule a\n", (1, "    \n", "\n"))
        self.edits("module a # one; ;  \nuse b\n", (17, "  \n", "\n"))
        self.edits("module a #  one  two\n")

    def test_texts_and_comments_are_no_gaps(self):
        self.edits("module a\n\nlet k = \" ;  # \"\n")
        self.edits("module a\n\nlet k =\" ;  # \"  +  \"  \"\n", (17, "", " "), (25, "  ", " "), (28, "  ", " "))
        self.edits("module a # ;  \"  ;  #\n")

    def test_widths(self):
        text = "module a\n\nlet k = f(aaaaaaaa, b)\n"
        self.edits(text, width=32)
        self.edits(text, width=22)
        self.edits(text, (20, "", "\n  "), (29, " ", "\n  "), (31, "", "\n"), width=21)
        self.edits(text, (20, "", "\n  "), (29, " ", "\n  "), (31, "", "\n"), width=20)

    def test_long_layouts(self):
        text = as_bytes("module a let k=[" + "a," * 2000 + "a]")
        found = edits(80, text)
        rows = split_edits(found)
        self.assertEqual(len(rows), 2006)
        self.assertEqual(rows[:4], [(8, 1, [10, 10]), (14, 0, [32]), (15, 0, [32]), (16, 0, [10, 32, 32])])
        self.assertEqual(rows[4], (18, 0, [10, 32, 32]))
        self.assertEqual(rows[-2:], [(4017, 0, [10]), (4018, 0, [10])])
        layout = make_edits(text, rows)
        self.assertGreater(len(layout), 4096)
        self.assertEqual([0, len(layout)] + layout, format_text(80, text))
        self.assertEqual(edits(80, layout), [-1])
        self.assertEqual(edits(80, as_bytes("module a#" + "c" * 4087)), [0, 2, 8, 0, 1, 32, 4096, 0, 1, 10])
        self.assertEqual(edits(80, as_bytes("module" + " " * 4089 + "a")), [0, 2, 6, 4089, 1, 32, 4096, 0, 1, 10])

    def test_each_gap_once_and_in_order(self):
        for rng, text in random_texts(301, 400, [0, 0.05, 0.2, 0.4]):
            width = rng.choice([20, 30, 50, 80, 255])
            found = edits_answer(text, width)
            self.assertEqual(found, edits_to(text, laid(text, width)), (width, text))
            places = {begin: gap for begin, gap in gaps_of(text)}
            rows = split_edits(found)
            for (begin, size, new), after in zip(rows, rows[1:] + [None]):
                self.assertEqual(len(places[begin]), size)
                self.assertNotEqual(as_bytes(places[begin]), new)
                self.assertLessEqual(set(new), {10, 32})
                if after:
                    self.assertLess(begin, after[0])

    def test_one_gap_changed(self):
        # Of a layout in which one gap was changed, without a change of what matters, that one alone is told.
        rng = random.Random(302)
        tried = 0
        while tried < 300:
            row = random_tokens(rng, rng.choice([15, 40]))
            width = rng.choice([20, 40, 80])
            layout = laid(join_tokens(rng, row, rng.choice([0, 0.1])), width)
            gaps = gaps_of(layout)
            at = rng.randrange(len(gaps))
            begin, gap = gaps[at]
            kinds = [part[0] for part in split_text(layout)]
            extra = " " if at and kinds[at - 1] == "#" else rng.choice([" ", ";", "  ;"])
            text = layout[:begin] + extra + layout[begin:]
            if len(text) > 4096:
                continue
            tried += 1
            self.assertEqual(edits_answer(text, width),
                             [0, 1, begin, len(extra + gap), len(gap)] + as_bytes(gap), (width, text))

    def test_by_another_width(self):
        for rng, text in random_texts(303, 150, [0, 0.1]):
            narrow, wide = laid(text, 20), laid(text, 255)
            for width, before, after in ((255, narrow, wide), (20, wide, narrow)):
                if len(before) <= 4096:
                    self.assertEqual(edits_answer(before, width), edits_to(before, after))


if __name__ == "__main__":
    unittest.main()
