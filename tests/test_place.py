"""Places: where one in the text goes in its layout, and one in the layout in the text."""
import unittest

from laidout.layouts import format_text, place
from tests.helper import (as_bytes, as_words, deepness, laid, place_answer, places_between, random_texts, small_texts,
                          split_text)
from tests.test_example import BY_20, BY_80, PROGRAM

LONG = "module a let k=[" + "a," * 2000 + "a]"
LARGEST = 4294967295


def unmarked(words):
    """A text whose place is marked by a bar, and that place."""
    return words.replace("|", ""), words.index("|")


class There(unittest.TestCase):
    """Each place is marked by a bar, in the text and in its layout."""

    def goes(self, before, after, width=80):
        """Back 0: of the place in the text, which goes to the one in the layout."""
        text, at = unmarked(before)
        layout, to = unmarked(after)
        self.assertEqual(laid(text, width), layout)
        self.assertEqual(place(width, at, 0, as_bytes(text)), [0, to], (before, after))

    def comes(self, after, before, width=80):
        """Back 1: of the place in the layout, which goes to the one in the text."""
        layout, at = unmarked(after)
        text, to = unmarked(before)
        self.assertEqual(laid(text, width), layout)
        self.assertEqual(place(width, at, 1, as_bytes(text)), [0, to], (after, before))

    def both(self, before, after, width=80):
        """Within an element: there and back."""
        self.goes(before, after, width)
        self.comes(after, before, width)

    def test_within(self):
        self.both(" |module a", "|module a\n")
        self.both(" m|odule a", "m|odule a\n")
        self.both(" modul|e a", "modul|e a\n")
        self.both(" module    |a", "module |a\n")
        self.both("module a;use |bcd", "module a\nuse |bcd\n")
        self.both("module a;use b|cd", "module a\nuse b|cd\n")
        self.both("module a;use bc|d", "module a\nuse bc|d\n")
        self.both("module a let k|=2", "module a\n\nlet k |= 2\n")
        self.both("module a let k=|2", "module a\n\nlet k = |2\n")
        self.both("module a let k=2|5.75m", "module a\n\nlet k = 2|5.75m\n")
        self.both("module a let k=a/|/b", "module a\n\nlet k = a /|/ b\n")
        self.both("module a account b  A|B", "module a\n\naccount b A|B\n")

    def test_within_texts(self):
        self.both("module a let k=|\" # ;  \"", "module a\n\nlet k = |\" # ;  \"\n")
        self.both("module a let k=\" #| ;  \"", "module a\n\nlet k = \" #| ;  \"\n")
        self.both("module a let k=\" # ; | \"", "module a\n\nlet k = \" # ; | \"\n")
        self.both("module a let k=\" # ;  |\"", "module a\n\nlet k = \" # ;  |\"\n")
        self.both("module a let k=\"\\|n\"", "module a\n\nlet k = \"\\|n\"\n")

    def test_within_comments(self):
        self.both("module a|# one ; two  \nuse b", "module a |# one ; two\nuse b\n")
        self.both("module a#| one ; two  \nuse b", "module a #| one ; two\nuse b\n")
        self.both("module a# one| ; two  \nuse b", "module a # one| ; two\nuse b\n")
        self.both("module a# one ; tw|o  \nuse b", "module a # one ; tw|o\nuse b\n")
        self.both("  |#\n module a", "|#\nmodule a\n")
        self.both("module a\n  # on|e", "module a\n# on|e\n")

    def test_at_an_elements_end(self):
        # It's none of the element: the next one's begin, where there's a gap and where there's none.
        self.goes("module| a", "module |a\n")
        self.goes("module a| use b", "module a\n|use b\n")
        self.goes("module a use b|", "module a\nuse b\n|")
        self.goes("module a let k|=2", "module a\n\nlet k |= 2\n")
        self.goes("module a# one|\nuse b", "module a # one\n|use b\n")
        self.goes("module a\n# one|", "module a\n# one\n|")
        self.comes("module| a\n", "module   |a")
        self.comes("module a|\nuse b\n", "module a ; |use b")
        self.comes("module a\nuse b|\n", "module a use b ;|")
        self.comes("module a # one|\nuse b\n", "module a# one  \n |use b")
        self.comes("module a\n# one|\n", "module a\n# one  \n|")

    def test_before_the_first(self):
        for gap in (" ", "\n", ";", "\n\n; \n", "     "):
            for at in range(len(gap) + 1):
                self.goes(gap[:at] + "|" + gap[at:] + "module a", "|module a\n")
                self.goes(gap[:at] + "|" + gap[at:] + "# one\nmodule a", "|# one\nmodule a\n")
            self.comes("|module a\n", gap + "|module a")
            self.comes("|# one\nmodule a\n", gap + "|# one\nmodule a")

    def test_between(self):
        for gap in (" ", "\n", "; ", "\n\n", " \n ; "):
            for at in range(len(gap) + 1):
                self.goes("module" + gap[:at] + "|" + gap[at:] + "a", "module |a\n")
                self.goes("module a let k=f(1" + gap[:at] + "|" + gap[at:] + ")", "module a\n\nlet k = f(1|)\n")
            self.comes("module| a\n", "module" + gap + "|a")
        for layout in ("module a|\n\nlet k = 1\n", "module a\n|\nlet k = 1\n", "module a\n\n|let k = 1\n"):
            self.comes(layout, "module a ; \n|let k=1")
        for layout in ("module a\n\nfn f() {|\n  f()\n}\n", "module a\n\nfn f() {\n|  f()\n}\n",
                       "module a\n\nfn f() {\n | f()\n}\n", "module a\n\nfn f() {\n  |f()\n}\n"):
            self.comes(layout, "module a fn f(){|f()}")

    def test_behind_the_last(self):
        for gap in (" ", "\n", ";", "\n\n; \n", "      "):
            for at in range(len(gap) + 1):
                self.goes("module a" + gap[:at] + "|" + gap[at:], "module a\n|")
                if gap[0] == "\n":
                    self.goes("module a\n# one" + gap[:at] + "|" + gap[at:], "module a\n# one\n|")
            self.comes("module a|\n", "module a" + gap + "|")
            self.comes("module a\n|", "module a" + gap + "|")

    def test_blanks_behind_a_comment(self):
        # They're the gap's.
        for at in range(4):
            blanks = "   "[:at] + "|" + "   "[at:]
            self.goes("module a # one" + blanks + "\nuse b", "module a # one\n|use b\n")
            self.goes("module a # one" + blanks, "module a # one\n|")
            self.goes("#" + blanks + "\n# two\nmodule a", "#\n|# two\nmodule a\n")
            self.goes("# one; ;" + blanks + "\nmodule a", "# one; ;\n|module a\n")
        self.both("module a # one  | #  \nuse b", "module a # one  | #\nuse b\n")

    def test_side_by_side(self):
        layout = "module a\n\nlet k = f(1, [2])\n"
        text = "module a let k=f(1,[2])"
        for at in range(len("module a let "), len(text)):
            to = {13: 14, 14: 16, 15: 18, 16: 19, 17: 20, 18: 21, 19: 23, 20: 24, 21: 25, 22: 26}[at]
            self.both(text[:at] + "|" + text[at:], layout[:to] + "|" + layout[to:])
        self.goes(text + "|", layout + "|")
        # Where the layout has no gap the text may have one.
        text = "module a let k = f  (  1  )"
        self.goes("module a let k = f | (  1  )", "module a\n\nlet k = f|(1)\n")
        self.goes("module a let k = f  ( | 1  )", "module a\n\nlet k = f(|1)\n")
        self.goes("module a let k = f  (  1 | )", "module a\n\nlet k = f(1|)\n")
        self.goes("module a let k = f  (  1  )|", "module a\n\nlet k = f(1)\n|")
        for at, to in ((16, 15), (17, 17), (18, 17), (19, 20), (20, 23), (21, 26), (22, 27), (23, 27)):
            self.assertEqual(place(80, at, 1, as_bytes(text)), [0, to])

    def test_a_text_that_is_its_own_layout(self):
        for width, layout in ((80, BY_80), (20, BY_20), (80, "module a\n"), (80, "# one\nmodule a # two\n# three\n")):
            self.assertEqual(laid(layout, width), layout)
            goes = places_between(layout, layout)
            for at in range(len(layout) + 1):
                for back in (0, 1):
                    self.assertEqual(place(width, at, back, as_bytes(layout)), [0, goes[at]])
            within = [at for _, _, begin, end in split_text(layout) for at in range(begin, end)]
            self.assertEqual([goes[at] for at in within], within)
            self.assertEqual(goes[-1], len(layout))
        self.both("module a\n|", "module a\n|")
        self.goes("module| a\n", "module |a\n")
        self.comes("module a|\n", "module a\n|")

    def test_widths(self):
        self.both("module a let k = f(aaaaaaaa, |b)\n", "module a\n\nlet k = f(aaaaaaaa, |b)\n", 22)
        self.both("module a let k = f(aaaaaaaa, |b)\n", "module a\n\nlet k = f(\n  aaaaaaaa,\n  |b\n)\n", 21)
        for width, layout in ((80, BY_80), (20, BY_20)):
            for back, before, after in ((0, PROGRAM, layout), (1, layout, PROGRAM)):
                goes = places_between(before, after)
                self.assertEqual([place_answer(PROGRAM, at, back, width) for at in range(len(before) + 1)],
                                 [[0, to] for to in goes])

    def test_example(self):
        self.assertEqual(place_answer(PROGRAM, PROGRAM.index("return"), 0), [0, BY_80.index("return")])
        self.assertEqual(place_answer(PROGRAM, PROGRAM.index("return"), 0, 20), [0, BY_20.index("return")])
        self.assertEqual(place_answer(PROGRAM, BY_80.index("return"), 1), [0, PROGRAM.index("return")])
        self.assertEqual(place_answer(PROGRAM, BY_20.index("[1") + 3, 1, 20), [0, PROGRAM.index("[1") + 3])
        self.assertEqual(place_answer("module", 0, 0), [-2, 3, 6])


class Beyond(unittest.TestCase):
    def test_lengths(self):
        # Each length is answered with the other's; one more is beyond.
        for text, width in ((PROGRAM, 80), (PROGRAM, 20), ("module a", 80), ("module a\n", 80), ("  module;;a  \n\n ", 80),
                            ("# one\nmodule a # two   ", 80), ("module a\n# one\n\n\n# two", 40)):
            layout = laid(text, width)
            for back, before, after in ((0, text, layout), (1, layout, text)):
                self.assertEqual(place_answer(text, len(before), back, width), [0, len(after)])
                self.assertEqual(place_answer(text, len(before) - 1, back, width)[0], 0)
                for more in (1, 2, 3, 1000, LARGEST - len(before)):
                    self.assertEqual(place_answer(text, len(before) + more, back, width), [-4])

    def test_beyond_the_one_within_the_other(self):
        short, long = "module a let k=1", "module  ;;\n\n  a    "
        self.assertEqual((len(short), len(laid(short))), (16, 20))
        self.assertEqual((len(long), len(laid(long))), (19, 9))
        for at in (17, 18, 19, 20):
            self.assertEqual(place_answer(short, at, 0), [-4])
            self.assertEqual(place_answer(short, at, 1)[0], 0)
        self.assertEqual(place_answer(short, 21, 1), [-4])
        for at in range(10, 20):
            self.assertEqual(place_answer(long, at, 1), [-4])
            self.assertEqual(place_answer(long, at, 0)[0], 0)
        self.assertEqual(place_answer(long, 20, 0), [-4])

    def test_places_of_another_width(self):
        # What's beyond one width's layout is within another's.
        self.assertLess(len(BY_80), len(BY_20))
        for at in range(len(BY_80) + 1, len(BY_20) + 1):
            self.assertEqual(place_answer(PROGRAM, at, 1, 80), [-4])
            self.assertEqual(place_answer(PROGRAM, at, 1, 20)[0], 0)

    def test_long_layouts(self):
        layout = as_words(format_text(80, as_bytes(LONG))[2:])
        self.assertGreater(len(layout), 8000)
        goes = places_between(layout, LONG)
        for at in (0, 4095, 4096, 4097, 5000, 5001, 7777, len(layout) - 3, len(layout) - 1, len(layout)):
            self.assertEqual(place_answer(LONG, at, 1), [0, goes[at]])
        self.assertEqual(place_answer(LONG, len(layout) + 1, 1), [-4])
        goes = places_between(LONG, layout)
        for at in (0, 15, 16, 17, 2000, 2001, len(LONG) - 1, len(LONG)):
            self.assertEqual(place_answer(LONG, at, 0), [0, goes[at]])
        self.assertGreater(goes[len(LONG) - 1], 4096)
        self.assertEqual(place_answer(LONG, len(LONG) + 1, 0), [-4])
        self.assertEqual(place(80, 0, 1, as_bytes(layout)), [-1])

    def test_long_texts(self):
        self.assertEqual(place_answer("module a #" + "c" * 4086, 4095, 0), [0, 4095])
        self.assertEqual(place_answer("module a #" + "c" * 4086, 4096, 0), [0, 4097])
        self.assertEqual(place_answer("module a #" + "c" * 4086, 4097, 1), [0, 4096])
        self.assertEqual(place_answer("module a#" + "c" * 4087, 4095, 0), [0, 4096])
        self.assertEqual(place_answer("module" + " " * 4089 + "a", 7, 0), [0, 7])
        self.assertEqual(place_answer("module" + " " * 4089 + "a", 7, 1), [0, 4095])
        self.assertEqual(place_answer("module a" + "\n" * 4088, 4096, 0), [0, 9])
        self.assertEqual(place_answer("module a" + "\n" * 4088, 4097, 0), [-4])


class Refusals(unittest.TestCase):
    def test_widths_and_backs(self):
        for width in (0, 19, 20, 80, 255, 256, LARGEST):
            for back in (0, 1, 2, 3, 256, LARGEST):
                found = place_answer("module a", 0, back, width)
                self.assertEqual(found, [0, 0] if 20 <= width <= 255 and back <= 1 else [-1], (width, back))

    def test_sizes(self):
        for back in (0, 1):
            text = "module a" + " " * 4088
            self.assertEqual(place_answer(text, 0, back), [0, 0])
            self.assertEqual(place_answer(text + " ", 0, back), [-1])
            self.assertEqual(place_answer(text + " " * 904, 0, back), [-1])

    def test_order(self):
        deep, faulty = "(" * 101, "module a let"
        self.assertGreater(deepness(list(deep)), 100)
        for at in (0, 3, 5000, LARGEST):
            for back in (0, 1):
                # -1 first, whatever of it is wrong, then -6, then -2.
                self.assertEqual(place_answer(deep, at, back), [-6])
                self.assertEqual(place_answer("(" * 100, at, back), [-2, 2, 0])
                self.assertEqual(place_answer(faulty, at, back), [-2, 3, 12])
                self.assertEqual(place_answer("module 01", at, back), [-2, 1, 7])
                self.assertEqual(place_answer("module a b", at, back), [-2, 2, 9])
                for text in (deep, faulty, "module a", "!"):
                    self.assertEqual(place_answer(text, at, back, 19), [-1])
                    self.assertEqual(place_answer(text, at, back, 256), [-1])
                    self.assertEqual(place_answer(text, at, back + 2), [-1])
                    self.assertEqual(place_answer(text + " " * 4096, at, back), [-1])
                    self.assertEqual(place_answer(text + " " * 4096, at, 2, 19), [-1])
        # -4 only where nothing else refuses.
        for text, numbers in ((deep, [-6]), (faulty, [-2, 3, 12]), ("module a", [-4])):
            self.assertEqual(place_answer(text, 5000, 0), numbers)
            self.assertEqual(place_answer(text, 5000, 1), numbers)
            self.assertEqual(place_answer(text, 5000, 2), [-1])

    def test_depths(self):
        for back in (0, 1):
            text = "module a let k=" + "-" * 100 + "a"
            self.assertEqual(place_answer(text, 0, back), [0, 0])
            self.assertEqual(place_answer(text.replace("a let", "a  let"), len(text) + 1, 0), [0, len(laid(text))])
            self.assertEqual(place_answer("module a let k=" + "-" * 101 + "a", 0, back), [-6])

    def test_largest(self):
        self.assertEqual(place_answer("module a", LARGEST, 0, 20), [-4])
        self.assertEqual(place_answer("module a", LARGEST, 1, 255), [-4])
        self.assertEqual(place_answer("module a", LARGEST, LARGEST, 255), [-1])
        self.assertEqual(place_answer("module a", LARGEST, 0, LARGEST), [-1])
        self.assertEqual(place_answer("module a", LARGEST, LARGEST, LARGEST), [-1])


class Random(unittest.TestCase):
    def test_all_places(self):
        for rng, text in small_texts(401, 60):
            width = rng.choice([20, 30, 80])
            layout = laid(text, width)
            for back, before, after in ((0, text, layout), (1, layout, text)):
                goes = places_between(before, after)
                for at in range(len(before) + 1):
                    self.assertEqual(place_answer(text, at, back, width), [0, goes[at]], (at, back, width, text))
                self.assertEqual(place_answer(text, len(before) + 1, back, width), [-4])

    def test_some_places(self):
        for rng, text in random_texts(402, 300, [0, 0.05, 0.2, 0.4]):
            width = rng.choice([20, 25, 40, 80, 255])
            layout = laid(text, width)
            for back, before, after in ((0, text, layout), (1, layout, text)):
                goes = places_between(before, after)
                for at in rng.sample(range(len(before) + 1), 3) + [len(before)]:
                    self.assertEqual(place_answer(text, at, back, width), [0, goes[at]], (at, back, width, text))

    def test_further_is_not_before(self):
        for rng, text in random_texts(403, 60, [0, 0.2]):
            places = sorted(rng.randint(0, len(text)) for _ in range(8))
            found = [place_answer(text, at, 0, 40)[1] for at in places]
            self.assertEqual(found, sorted(found))


if __name__ == "__main__":
    unittest.main()
