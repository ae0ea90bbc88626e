"""F1, F2, F3 and F6, over many programs and widths; and what the calls do with what they're handed."""
import random
import unittest

from laidout.layouts import format_text, is_laid
from tests.helper import (Reference, answer, as_bytes, as_words, cost_of, deepness, join_tokens, laid, random_tokens,
                          split_text)


def random_texts(seed, count, comments):
    """So many random programs, as texts."""
    rng = random.Random(seed)
    found = 0
    while found < count:
        row = random_tokens(rng, rng.choice([10, 30, 60, 120, 250]))
        if rng.random() < 0.4:
            row = "module a fn f ( ) {".split() + random_tokens(rng, rng.choice([20, 80]), "statement") + ["}"]
        text = join_tokens(rng, row, rng.choice(comments))
        kinds = [part[0] for part in split_text(text) if part[0] != "#"]
        if len(text) <= 4096 and deepness(kinds) <= 100:
            found += 1
            yield rng, text


def other_gaps(rng, text):
    """The same elements with other gaps, which are alike in all that matters."""
    read = Reference(text)
    parts = read.parts
    lines = {index for index, told in enumerate(read.told) if told == "line"}
    words = ""
    at = 0
    for index, part in enumerate(parts):
        gap = text[parts[index - 1][3] if index else 0:part[2]]
        breaks = gap.count("\n")
        if part[0] == "#" or at in lines or parts[index - 1][0] == "#":
            fewest = min(breaks, 2)
            most = {0: 0, 1: 1, 2: 4}[fewest]
            if part[0] != "#" and parts[index - 1][0] != "#" and fewest < 2:
                fewest, most = 0, 1
        else:
            fewest, most = 0, 4
        if index == 0:
            fewest, most = 0, 4
        pieces = ["\n"] * rng.randint(fewest, most) + [rng.choice([" ", ";", "  "]) for _ in range(rng.randint(0, 3))]
        rng.shuffle(pieces)
        if index and parts[index - 1][0] == "#":
            # Only blanks and a line's end may follow a comment that's to stay as it is.
            pieces.sort(key=lambda piece: piece != "\n")
        filled = "".join(pieces)
        words += (filled or " ") + part[1]
        at += part[0] != "#"
    return words + "\n" + rng.choice(["", "\n", ";"])


class Promises(unittest.TestCase):
    def test_f1_same_elements(self):
        for rng, text in random_texts(101, 500, [0, 0, 0.05, 0.2, 0.4]):
            for width in rng.sample(range(20, 256), 2):
                found = answer(text, width)
                self.assertEqual(found[:2], [0, len(found) - 2])
                layout = as_words(found[2:])
                self.assertEqual([part[:2] for part in split_text(layout)], [part[:2] for part in split_text(text)])
                before, after = Reference(text), Reference(layout)
                self.assertEqual((before.kinds, before.told, before.depths), (after.kinds, after.told, after.depths))
                self.assertEqual([(g.first, g.end) for g in before.groups], [(g.first, g.end) for g in after.groups])
                self.assertEqual(before.within, after.within)

    def test_layouts_lines(self):
        for rng, text in random_texts(102, 300, [0, 0.1, 0.3]):
            layout = laid(text, rng.choice([20, 50, 200]))
            self.assertTrue(layout.endswith("\n") and not layout.endswith("\n\n"))
            self.assertNotIn("\n\n\n", layout)
            self.assertFalse(layout.startswith((" ", "\n")))
            for line in layout.split("\n"):
                self.assertEqual(line, line.rstrip(" "))
                self.assertEqual((len(line) - len(line.lstrip(" "))) % 2, 0)

    def test_f2_again_the_same(self):
        for rng, text in random_texts(103, 600, [0, 0, 0.05, 0.2, 0.4]):
            width = rng.choice([20, 25, 30, 40, 60, 80, 255])
            found = answer(text, width)
            if found[1] <= 4096:
                self.assertEqual(format_text(width, found[2:]), found)
                self.assertEqual(is_laid(width, found[2:]), [0, 1])
            self.assertEqual(is_laid(width, as_bytes(text)), [0, int(as_words(found[2:]) == text)])
            other = rng.choice([20, 25, 30, 40, 60, 80, 255])
            if found[1] <= 4096:
                # Nothing of a layout by another width is left.
                self.assertEqual(format_text(other, found[2:]), answer(text, other))

    def test_f3_none_costs_less(self):
        for rng, text in random_texts(104, 250, [0, 0, 0.05]):
            read = Reference(text)
            width = rng.choice([20, 25, 30, 40, 60, 80])
            cost = cost_of(laid(text, width), width)
            for _ in range(8):
                self.assertLessEqual(cost, cost_of(read.lay_out(read.random_choice(rng)), width), text)

    def test_f6_gaps_that_do_not_matter(self):
        for rng, text in random_texts(105, 500, [0, 0.05, 0.2, 0.4]):
            other = other_gaps(rng, text)
            if len(other) > 4096:
                continue
            width = rng.choice([20, 30, 50, 80, 120])
            self.assertEqual(answer(text, width), answer(other, width), (text, other))

    def test_f6_what_matters(self):
        self.assertNotEqual(laid("module a # b"), laid("module a\n# b"))
        self.assertNotEqual(laid("module a\nuse b"), laid("module a\n\nuse b"))


class Calls(unittest.TestCase):
    TEXTS = ("module a", "module", "module a let b = f(1, 2) # c", "(" * 200, "module a let b = \"", "", "#" * 5000,
             "module a fn f(x:whole){say aaaaaaaaaaaaaaaaaa,b # c\n\n# d\n}")

    def test_what_is_handed_in_stays(self):
        for text in self.TEXTS:
            for width in (19, 20, 80, 255, 256):
                for call in (format_text, is_laid):
                    numbers = as_bytes(text)
                    found = call(width, numbers)
                    self.assertEqual(numbers, as_bytes(text))
                    self.assertIsInstance(found, list)
                    self.assertIsNot(found, numbers)
                    self.assertTrue(all(type(number) is int for number in found))

    def test_nothing_is_kept(self):
        first = {}
        for turn in range(3):
            rows = [(text, width, call) for text in self.TEXTS for width in (20, 80, 256)
                    for call in (format_text, is_laid)]
            random.Random(turn).shuffle(rows)
            for text, width, call in rows:
                found = call(width, as_bytes(text))
                self.assertEqual(first.setdefault((text, width, call), list(found)), found)
                # What was given back may be changed without harm.
                found.clear()

    def test_a_layout_is_given_back_anew(self):
        numbers = as_bytes("module a\n")
        found = format_text(80, numbers)
        found[2] = 0
        self.assertEqual(numbers, as_bytes("module a\n"))
        self.assertEqual(format_text(80, numbers), [0, 9] + numbers)


if __name__ == "__main__":
    unittest.main()
