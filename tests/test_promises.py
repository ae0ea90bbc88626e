"""F1 to F6, over many programs and widths; and what the calls do with what they're handed."""
import random
import unittest

from laidout.layouts import cost, edits, format_text, is_laid, place, same
from tests.helper import (CALLS, Reference, answer, as_bytes, as_words, cost_answer, cost_of, edits_answer, edits_to,
                          gaps_of, laid, make_edits, other_gaps, outline_answer, outline_of, place_answer, random_texts,
                          same_answer, small_texts, split_edits, split_text)


class Promises(unittest.TestCase):
    def test_f1_same_elements(self):
        for rng, text in random_texts(101, 500, [0, 0, 0.05, 0.2, 0.4]):
            for width in rng.sample(range(20, 256), 2):
                found = answer(text, width)
                self.assertEqual(found[:2], [0, len(found) - 2])
                layout = as_words(found[2:])
                self.assertEqual([part[:2] for part in split_text(layout)], [part[:2] for part in split_text(text)])
                self.assertEqual(same_answer(text, layout), [0, 1] if len(layout) <= 4096 else [-1])
                before, after = Reference(text), Reference(layout)
                outlines = [outline_of(words) for words in (text, layout)]
                self.assertEqual(outline_answer(text), outlines[0])
                self.assertEqual(outlines[0][2::4], outlines[1][2::4])
                if len(layout) <= 4096:
                    self.assertEqual(outline_answer(layout), outlines[1])
                self.assertEqual((before.kinds, before.told, before.depths), (after.kinds, after.told, after.depths))
                self.assertEqual([(g.first, g.end) for g in before.groups], [(g.first, g.end) for g in after.groups])
                self.assertEqual(before.within, after.within)

    def test_layouts_lines(self):
        for rng, text in random_texts(102, 300, [0, 0.1, 0.3]):
            layout = laid(text, rng.choice([20, 50, 200]))
            self.assertTrue(layout.endswith("\n") and not layout.endswith("\n\n"))
            self.assertNotIn("\n\n\n", layout)
            self.assertFalse(layout.startswith((" ", "\n")))
            for line in layout.split("\n"):
                self.assertEqual(line, line.rstrip(" "))
                self.assertEqual((len(line) - len(line.lstrip(" "))) % 2, 0)

    def test_f2_again_the_same(self):
        for rng, text in random_texts(103, 600, [0, 0, 0.05, 0.2, 0.4]):
            width = rng.choice([20, 25, 30, 40, 60, 80, 255])
            found = answer(text, width)
            if found[1] <= 4096:
                self.assertEqual(format_text(width, found[2:]), found)
                self.assertEqual(is_laid(width, found[2:]), [0, 1])
            self.assertEqual(is_laid(width, as_bytes(text)), [0, int(as_words(found[2:]) == text)])
            other = rng.choice([20, 25, 30, 40, 60, 80, 255])
            if found[1] <= 4096:
                # Nothing of a layout by another width is left.
                self.assertEqual(format_text(other, found[2:]), answer(text, other))
                self.assertEqual(cost(other, found[2:]), cost_answer(text, other))

    def test_f3_none_costs_less(self):
        for rng, text in random_texts(104, 250, [0, 0, 0.05]):
            read = Reference(text)
            width = rng.choice([20, 25, 30, 40, 60, 80])
            least = cost_of(laid(text, width), width)
            self.assertEqual(cost_answer(text, width), [0, *least], text)
            for _ in range(8):
                self.assertLessEqual(least, cost_of(read.lay_out(read.random_choice(rng)), width), text)

    def test_f4_edits_give_the_layout(self):
        for rng, text in random_texts(106, 600, [0, 0, 0.05, 0.2, 0.4]):
            width = rng.choice([20, 25, 30, 40, 60, 80, 255])
            layout = laid(text, width)
            found = edits_answer(text, width)
            self.assertEqual(found, edits_to(text, layout), text)
            rows = split_edits(found)
            self.assertEqual(as_words(make_edits(as_bytes(text), rows)), layout)
            self.assertEqual(found == [0, 0], is_laid(width, as_bytes(text)) == [0, 1])
            # Any of them by itself changes one gap alone, and the others are as they were.
            if rows:
                row = rng.choice(rows)
                before = gaps_of(text)
                after = gaps_of(as_words(make_edits(as_bytes(text), [row])))
                changed = [at for at, (_, gap) in enumerate(before) if gap != after[at][1]]
                self.assertEqual([before[at][0] for at in changed], [row[0]])

    def test_f4_none_of_a_layout(self):
        for rng, text in random_texts(107, 300, [0, 0.05, 0.2]):
            width = rng.choice([20, 40, 80, 255])
            layout = laid(text, width)
            if len(layout) <= 4096:
                self.assertEqual(edits(width, as_bytes(layout)), [0, 0], text)
                other = rng.choice([20, 30, 50, 100])
                self.assertEqual(edits(other, as_bytes(layout)), edits_to(layout, laid(text, other)))

    def there_and_back(self, text, width, few):
        """Places within elements, as many of each side as are asked for: there and back each is the same again."""
        layout = laid(text, width)
        for back, before, after in ((0, text, layout), (1, layout, text)):
            within = [at for _, _, begin, end in split_text(before) for at in range(begin, end)]
            others = {at for _, _, begin, end in split_text(after) for at in range(begin, end)}
            for at in within[::max(1, len(within) // few)]:
                found = place_answer(text, at, back, width)
                self.assertIn(found[1], others)
                self.assertEqual(after[found[1]], before[at])
                self.assertEqual(place_answer(text, found[1], 1 - back, width), [0, at], (at, back, width, text))

    def test_f5_places_go_and_come_back(self):
        for rng, text in random_texts(108, 400, [0, 0.05, 0.2, 0.4]):
            self.there_and_back(text, rng.choice([20, 25, 30, 40, 60, 80, 255]), 4)

    def test_f5_each_place(self):
        for rng, text in small_texts(109, 60):
            self.there_and_back(text, rng.choice([20, 30, 80]), len(text))

    def test_f6_gaps_that_do_not_matter(self):
        for rng, text in random_texts(105, 500, [0, 0.05, 0.2, 0.4]):
            other = other_gaps(rng, text)
            if len(other) > 4096:
                continue
            width = rng.choice([20, 30, 50, 80, 120])
            self.assertEqual(answer(text, width), answer(other, width), (text, other))
            self.assertEqual(cost_answer(text, width), cost_answer(other, width), (text, other))

    def test_f6_what_matters(self):
        self.assertNotEqual(laid("module a # b"), laid("module a\n# b"))
        self.assertNotEqual(laid("module a\nuse b"), laid("module a\n\nuse b"))


class Calls(unittest.TestCase):
    TEXTS = ("module a", "module", "module a let b = f(1, 2) # c", "(" * 200, "module a let b = \"", "", "#" * 5000,
             "module a fn f(x:whole){say aaaaaaaaaaaaaaaaaa,b # c\n\n# d\n}")

    def test_what_is_handed_in_stays(self):
        for text in self.TEXTS:
            for width in (19, 20, 80, 255, 256):
                for call in CALLS:
                    numbers = as_bytes(text)
                    found = call(width, numbers)
                    self.assertEqual(numbers, as_bytes(text))
                    self.assertIsInstance(found, list)
                    self.assertIsNot(found, numbers)
                    self.assertTrue(all(type(number) is int for number in found))

    def test_nothing_is_kept(self):
        first = {}
        for turn in range(3):
            rows = [(text, width, call) for text in self.TEXTS for width in (20, 80, 256)
                    for call in CALLS]
            random.Random(turn).shuffle(rows)
            for text, width, call in rows:
                found = call(width, as_bytes(text))
                self.assertEqual(first.setdefault((text, width, call), list(found)), found)
                # What was given back may be changed without harm.
                found.clear()

    def test_both_texts_stay(self):
        for text in self.TEXTS:
            for other in self.TEXTS:
                first, second = as_bytes(text), as_bytes(other)
                found = same(first, second)
                self.assertEqual((first, second), (as_bytes(text), as_bytes(other)))
                self.assertEqual(same_answer(text, other), found)
                self.assertEqual(same_answer(other, text)[:1], found[:1])
                self.assertTrue(all(type(number) is int for number in found))

    def test_places_are_plain_numbers(self):
        for text in self.TEXTS:
            for at in (0, 3, 8, 20, 100, 4294967295):
                for back in (0, 1, 2):
                    numbers = as_bytes(text)
                    found = place(80, at, back, numbers)
                    self.assertEqual(numbers, as_bytes(text))
                    self.assertTrue(all(type(number) is int for number in found))
                    self.assertEqual(place(80, at, back, numbers), found)
                    found.clear()
                    self.assertNotEqual(place(80, at, back, numbers), [])

    def test_a_layout_is_given_back_anew(self):
        numbers = as_bytes("module a\n")
        found = format_text(80, numbers)
        found[2] = 0
        self.assertEqual(numbers, as_bytes("module a\n"))
        self.assertEqual(format_text(80, numbers), [0, 9] + numbers)

    def test_edits_are_given_back_anew(self):
        numbers = as_bytes(" module  a")
        found = edits(80, numbers)
        self.assertEqual(found, [0, 3, 0, 1, 0, 7, 2, 1, 32, 10, 0, 1, 10])
        found[-1] = 0
        self.assertEqual(edits(80, numbers), [0, 3, 0, 1, 0, 7, 2, 1, 32, 10, 0, 1, 10])
        self.assertEqual(numbers, as_bytes(" module  a"))


if __name__ == "__main__":
    unittest.main()
