"""What a layout costs: its bytes beyond the width, and its lines."""
import random
import unittest

from laidout.layouts import cost, format_text
from tests.helper import (Reference, as_bytes, as_words, cost_answer, cost_of, join_tokens, laid, random_texts,
                          random_tokens)
from tests.test_example import BY_20, BY_80, PROGRAM


class Cost(unittest.TestCase):
    def costs(self, text, width, beyond, lines):
        self.assertEqual(cost(width, as_bytes(text)), [0, beyond, lines], text)

    def test_example(self):
        self.costs(PROGRAM, 80, 0, 8)
        self.costs(PROGRAM, 20, 0, 13)
        self.costs(PROGRAM, 25, 0, 8)
        self.costs(PROGRAM, 24, 0, 10)
        self.costs(PROGRAM, 21, 0, 10)
        self.costs(BY_80, 80, 0, 8)
        self.costs(BY_80, 20, 0, 13)
        self.costs(BY_20, 20, 0, 13)
        self.costs(BY_20, 80, 0, 8)
        self.costs("module a", 20, 0, 1)
        self.costs("module a", 255, 0, 1)
        self.assertEqual(cost(80, as_bytes("module")), [-2, 3, 6])

    def test_lines(self):
        self.costs("module a use b", 80, 0, 2)
        self.costs("module a use b use c", 80, 0, 3)
        # Empty lines are lines, too: those that always stand, and those that the text has.
        self.costs("module a let b = 1", 80, 0, 3)
        self.costs("module a use b\n\n\nuse c", 80, 0, 4)
        self.costs("module a fn f() {} fn g() {}", 80, 0, 5)
        self.costs("module a\n\n\n\n", 80, 0, 1)
        self.costs("module a fn f() {\n\na() b()\n\nc()\n\n}", 80, 0, 8)

    def test_comments(self):
        self.costs("# one\nmodule a", 80, 0, 2)
        self.costs("module a # one", 80, 0, 1)
        self.costs("module a\n# one", 80, 0, 2)
        self.costs("module a\n\n# one\n\n\n# two\n\n\n", 80, 0, 5)
        self.costs("module # one\na", 80, 0, 2)
        # A comment's blanks at its end are none of the layout's.
        self.costs("module a # " + "c" * 9 + " " * 300, 20, 0, 1)
        self.costs("module a # " + "c" * 10 + " " * 300, 20, 1, 1)

    def test_at_the_width(self):
        # A line's end isn't among its bytes.
        for width in (20, 21, 80, 254, 255):
            comment = "#" + "c" * (width - 10)
            self.costs("module a" + comment, width, 0, 1)
            self.costs("module a" + comment + "d", width, 1, 1)
            self.costs("module a" + comment + "def", width, 3, 1)
            self.costs("module a\n" + comment + "d" * 9, width, 0, 2)
            self.costs("module a\n" + comment + "d" * 10, width, 1, 2)
            self.costs(comment + "d" * 9 + "\nmodule a", width, 0, 2)
            self.costs(comment + "d" * 11 + "\nmodule a", width, 2, 2)

    def test_beyond(self):
        name = "n" * 31
        self.costs("module " + name, 20, 18, 1)
        self.costs("module " + name, 37, 1, 1)
        self.costs("module " + name, 38, 0, 1)
        # All lines' together; a line that's short makes up for nothing.
        self.costs("module " + name + " use " + name + " use b", 20, 18 + 15, 3)
        self.costs("module a let k = [" + name + ", " + name + "]", 20, 14 + 13, 6)
        self.costs("module a let k = \"" + "t" * 1024 + "\"", 20, 8 + 1026 - 20, 3)
        self.costs("module a let k = \"" + "\\n" * 1024 + "\"", 255, 8 + 2050 - 255, 3)
        self.costs("module a let k = " + "1" * 255, 100, 163, 3)
        # Indents and what stands behind what's broken count.
        self.costs("module a fn f() {x(" + name + ")[" + name + "]=1}", 20, 15 + 20, 7)
        ifs = sum(2 * level + 6 - 20 for level in range(8, 16))
        ends = sum(2 * level + 1 - 20 for level in range(10, 16))
        self.costs("module a fn f() {" + "if a {" * 15 + "f()" + "}" * 16, 20, ifs + 32 + 3 - 20 + ends, 3 + 15 + 1 + 16)

    def test_beyond_before_lines(self):
        # 20 bytes at most while there's a way, then fewer lines.
        self.costs("module a let k = [" + ", ".join("abcdefg") + "]", 20, 0, 11)
        self.costs("module a let k = [" + ", ".join("abcdefg") + "]", 29, 0, 3)
        self.costs("module a let k = f(aaaaaaa)(bbbbbbb)", 20, 0, 5)
        self.costs("module a let k = aaaaaaaa + f(bbbbbb)", 20, 0, 4)

    def test_of_what_format_text_answers(self):
        for rng, text in random_texts(201, 500, [0, 0, 0.05, 0.2, 0.4]):
            for width in rng.sample(range(20, 256), 2) + [20]:
                self.assertEqual(cost_answer(text, width), [0, *cost_of(laid(text, width), width)], (width, text))

    def test_none_costs_less(self):
        rng = random.Random(202)
        tried = beyond = 0
        while tried < 300:
            row = "module a fn f ( ) {".split() + random_tokens(rng, rng.choice([12, 25]), "statement") + ["}"]
            text = join_tokens(rng, row, rng.choice([0, 0, 0.05]))
            read = Reference(text)
            if sum(not read.forced(at) for at in range(len(read.groups))) > 7:
                continue
            width = rng.choice([20, 22, 25, 30, 40])
            least = min(cost_of(read.lay_out(choice), width) for choice in read.choices())
            self.assertEqual(cost_answer(text, width), [0, *least], (width, text))
            tried += 1
            beyond += least[0] > 0
        self.assertGreater(beyond, 30)

    def test_wider_is_not_further_beyond(self):
        for rng, text in random_texts(203, 60, [0, 0.1]):
            rows = [cost_answer(text, width) for width in (20, 24, 30, 40, 60, 100, 180, 255)]
            for before, after in zip(rows, rows[1:]):
                self.assertLessEqual(after[1:], before[1:])

    def test_long_layouts(self):
        text = as_bytes("module a let k=[" + "a," * 2000 + "a]")
        found = format_text(80, text)
        self.assertGreater(found[1], 4096)
        self.assertEqual(cost(80, text), [0, 0, 2005])
        self.assertEqual(cost(80, found[2:]), [-1])
        self.assertEqual(cost(80, as_bytes("module a #" + "c" * 4086)), [0, 4096 - 80, 1])
        self.assertEqual(cost(80, as_bytes("module a#" + "c" * 4087)), [0, 4097 - 80, 1])

    def test_does_not_tell_of_the_text(self):
        # It's the layout's cost, whatever the text's own lines are.
        for gap in (" ", "\n", " " * 100, ";\n ;", "\n\n\n"):
            self.costs(gap + "module" + gap + "a" + gap + "let" + gap + "k" + gap + "=" + gap + "1" + gap, 20, 0, 3)

    def test_layouts_cost_the_same(self):
        for rng, text in random_texts(204, 100, [0, 0.1, 0.3]):
            width = rng.choice([20, 40, 80])
            found = format_text(width, as_bytes(text))
            if found[1] <= 4096:
                self.assertEqual(cost(width, found[2:]), cost_answer(text, width))
                self.assertEqual(cost(width, found[2:])[1:], list(cost_of(as_words(found[2:]), width)))


if __name__ == "__main__":
    unittest.main()
