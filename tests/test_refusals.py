"""What is refused, in which order, and the faults of tokens at their edges."""
import random
import unittest

from laidout.layouts import cost, edits, format_text, is_laid
from tests.helper import (CALLS, WIDTH_CALLS, as_bytes, as_words, cost_of, deepness, laid, make_edits, place_there,
                          same_twice, split_edits, split_text)

START = "module a let k="


class Refused(unittest.TestCase):
    def asked(self, text, width=80):
        """What format_text answers; the other calls refuse what it does, and else answer what fits."""
        numbers = as_bytes(text) if isinstance(text, str) else text
        found = format_text(width, numbers)
        if found[0] != 0:
            # Not all calls have a width to refuse.
            for call in CALLS if 20 <= width <= 255 else WIDTH_CALLS:
                self.assertEqual(call(width, numbers), found, call)
        else:
            self.assertEqual(found[1], len(found) - 2)
            self.assertEqual(is_laid(width, numbers), [0, int(found[2:] == numbers)])
            self.assertEqual(cost(width, numbers), [0, *cost_of(as_words(found[2:]), width)])
            self.assertEqual(make_edits(numbers, split_edits(edits(width, numbers))), found[2:])
            self.assertEqual(place_there(width, numbers), [0, 0])
            self.assertEqual(same_twice(width, numbers), [0, 1])
        return found

    def refused(self, text, *numbers):
        self.assertEqual(self.asked(text), list(numbers), text)

    def value(self, words, *numbers):
        """What is told of a value; its place is counted from where the value begins."""
        found = self.asked(START + words)
        if not numbers:
            self.assertEqual(found[0], 0, words)
        else:
            self.assertEqual(found, [-2, numbers[0], numbers[1] + len(START)], words)


class Sizes(Refused):
    def test_length(self):
        for extra in (" ", "\n", ";", "#"):
            text = "module a " + extra * (4096 - 9)
            self.assertEqual(len(text), 4096)
            self.assertEqual(self.asked(text)[0], 0)
            self.refused(text + extra, -1)

    def test_length_before_all_else(self):
        self.refused("(" * 4097, -1)
        self.refused([200] * 4097, -1)
        self.refused([200] * 5000, -1)
        self.refused("(" * 4096, -6)
        self.refused([200] * 4096, -2, 1, 0)

    def test_width(self):
        for width in (0, 1, 19, 256, 257, 1000, 4294967295):
            self.assertEqual(self.asked("module a", width), [-1])
            self.assertEqual(self.asked("module", width), [-1])
            self.assertEqual(self.asked("(" * 200, width), [-1])
            self.assertEqual(self.asked([0], width), [-1])
        for width in (20, 21, 80, 254, 255):
            self.assertEqual(self.asked("module a", width)[0], 0)
            self.assertEqual(self.asked("module", width), [-2, 3, 6])

    def test_widths_that_matter(self):
        for width in (20, 255):
            name = "n" * 31
            value = name
            while len("let k = " + value) + 4 <= width:
                value += " + " + name[:min(31, width - len("let k = " + value) - 3)]
            wide = START + value
            lines = laid(wide, width).split("\n")
            if width == 255:
                self.assertEqual(len(lines[2]), 255)
                self.assertGreater(len(laid(wide, 254).split("\n")), 4)
            self.assertEqual(laid(wide, width), laid(laid(wide, width), width))

    def test_long_layouts(self):
        text = START + "[" + "a," * 2000 + "a]"
        found = self.asked(text)
        self.assertEqual(found[0], 0)
        self.assertGreater(found[1], 4096)
        self.assertEqual(self.asked(found[2:]), [-1])


class Depths(Refused):
    def deep(self, make, edge):
        """Of make(edge) the depth is 100, of make(edge + 1) it's above."""
        for count, numbers in ((edge - 1, 0), (edge, 0), (edge + 1, 1)):
            text = make(count)
            kinds = [part[0] for part in split_text(text) if part[0] != "#"]
            depth = deepness(kinds)
            self.assertEqual(depth > 100, numbers == 1, (depth, text[:60]))
            self.assertEqual(self.asked(text) == [-6], numbers == 1, text[:60])
        return make(edge)

    def test_operators(self):
        for sign in ("-", "+", "*", "/", "//", "%", "^", " or ", " and "):
            text = self.deep(lambda count: START + "a" + (sign + "a") * count, 100)
            self.assertEqual(self.asked(text)[0], 0)

    def test_comparisons(self):
        # A program has no rows of these, but -6 comes before the forms.
        for sign in ("==", "!=", "<", "<=", ">", ">=", "->", " of ", " then ", " spawn ", " resume ", " giving ",
                     " picture ", " not "):
            text = self.deep(lambda count: START + "a" + (sign + "a") * count, 100)
            self.assertEqual(self.asked(text)[0], -2)
        for sign in (" as ", "."):
            text = self.deep(lambda count: START + "a" + (sign + "a") * count, 100)
            self.assertEqual(self.asked(text)[0], 0)

    def test_prefixes(self):
        for sign in ("-", "not "):
            self.assertEqual(self.asked(self.deep(lambda count: START + sign * count + "a", 100))[0], 0)

    def test_words_within(self):
        within = [
            (lambda count: START + "a" + " as whole" * count, 100),
            (lambda count: "module a let k:" + "list of " * count + "whole=a", 100),
            (lambda count: "module a let k:" + "fibre of " * count + "whole=a", 100),
            (lambda count: START + "spawn a+" * count + "a", 50),
            (lambda count: START + "resume a giving " * count + "a", 50),
            (lambda count: START + "if a then b else " * count + "c", 100),
            (lambda count: START + "picture \"x\" of a+" * count + "a", 33),
            (lambda count: START + "a==b and " * count + "a", 50),
        ]
        for make, edge in within:
            self.assertEqual(self.asked(self.deep(make, edge))[0], 0)

    def test_brackets(self):
        # The last closing one counts as well: it puts one more where it's put.
        within = [
            (lambda count: START + "(" * count + "a" + ")" * count, 100),
            (lambda count: START + "[" * count + "a" + "]" * count, 100),
            (lambda count: START + "f(" * count + ")" * count, 100),
            (lambda count: START + "a[" * count + "a" + "]" * count, 100),
            (lambda count: "module a fn f(){" + "if a{" * count + "}" * count + "}", 98),
            (lambda count: "module a let k:" + "fn(" * count + ")" * count + "=a", 100),
        ]
        for make, edge in within:
            self.assertEqual(self.asked(self.deep(make, edge))[0], 0)

    def test_closed_brackets_count(self):
        self.assertEqual(self.asked(self.deep(lambda count: START + "f" + "()" * count, 100))[0], 0)
        self.assertEqual(self.asked(self.deep(lambda count: START + "f" + "[1]" * count, 100))[0], 0)
        self.assertEqual(self.asked(self.deep(lambda count: "module a fn f(){" + "f()" * count + "}", 98))[0], 0)

    def test_closing_ones_alone(self):
        self.assertEqual(self.asked(")" * 100), [-2, 2, 0])
        self.assertEqual(self.asked("]" * 100), [-2, 2, 0])
        # Each takes away the only number: the one that stands there anew is 1, or 0.
        self.assertEqual(self.asked(")" * 3000), [-2, 2, 0])
        self.assertEqual(self.asked("+" * 50 + ")" + "+" * 99), [-2, 2, 0])
        self.assertEqual(self.asked("+" * 50 + ")" + "+" * 100), [-6])
        self.assertEqual(self.asked("+" * 50 + "]" + "+" * 99), [-2, 2, 0])
        self.assertEqual(self.asked("+" * 50 + "]" + "+" * 100), [-6])
        self.assertEqual(self.asked("+" * 50 + "}" + "+" * 100), [-2, 2, 0])
        self.assertEqual(self.asked("+" * 50 + "}" + "+" * 101), [-6])
        # Where others stand behind them, ) and ] make the next one more, and } makes it 0.
        self.assertEqual(self.asked("+" * 50 + "{" + "+" * 49 + "}" + "+" * 100), [-2, 2, 0])
        self.assertEqual(self.asked("+" * 50 + "{" + "+" * 49 + "}" + "+" * 101), [-6])
        self.assertEqual(self.asked("+" * 50 + "{" + "+" * 50), [-6])
        self.assertEqual(self.asked("+" * 50 + "(" + ")" + "+" * 49), [-2, 2, 0])
        self.assertEqual(self.asked("+" * 50 + "(" + ")" + "+" * 50), [-6])

    def test_what_makes_it_0(self):
        for word in (", = : let fn record account use return raise say yield post from match is while for in to with "
                     "try catch").split():
            half = "+ " * 60
            self.assertEqual(self.asked(half + word + " " + half), [-2, 2, 0], word)
            self.assertEqual(self.asked("+ " * 100 + word + " " + "+ " * 100), [-2, 2, 0], word)
            self.assertEqual(self.asked("+ " * 60 + word + " " + "+ " * 101), [-6], word)

    def test_what_counts_for_nothing(self):
        for word in ("if else a AB 1 \"x\" .. module next leave break flags finally into and2 only make true "
                     "whole packed near trap # ;").split():
            gap = "\n" if word == "#" else " "
            self.assertEqual(self.asked(("+ " + word + gap) * 100), [-2, 2, 0], word)
            self.assertEqual(self.asked(("+ " + word + gap) * 101), [-6], word)

    def test_together(self):
        # 40 open brackets with one sign in each but the last are 40 and 40.
        text = START + "(a+" * 40 + "a"
        self.assertEqual(self.asked(text + "+a" * 20), [-2, 3, len(text) + 40])
        self.assertEqual(self.asked(text + "+a" * 21), [-6])

    def test_deep_before_faults(self):
        # As far as the tokens have no fault, whatever the forms say.
        self.assertEqual(self.asked("+" * 101), [-6])
        self.assertEqual(self.asked("+" * 100), [-2, 2, 0])
        self.assertEqual(self.asked("x " + "+" * 101 + " !"), [-6])
        self.assertEqual(self.asked("! " + "+" * 101), [-2, 1, 0])
        self.assertEqual(self.asked("+" * 100 + " ! +"), [-2, 2, 0])
        self.assertEqual(self.asked(START + "-" * 101 + "\""), [-6])
        self.assertEqual(self.asked(START + "\"" + "-" * 101), [-2, 3, len(START) + 102])

    def test_rows_that_do_not_count(self):
        text = "module a let k:" + "fn()->" * 600 + "whole=1"
        self.assertEqual(self.asked(text)[0], 0)
        text = START + "if " * 1300
        self.assertEqual(self.asked(text), [-2, 3, len(text)])
        text = START + "if " * 1300 + "then"
        self.assertEqual(self.asked(text), [-2, 2, len(text) - 4])

    def test_random_rows(self):
        rng = random.Random(61)
        words = "( ( [ { ) ] } + - . , = let not then a of while".split()
        for _ in range(300):
            row = [rng.choice(words) for _ in range(rng.randint(50, 700))]
            self.assertEqual(self.asked(" ".join(row)) == [-6], deepness(row) > 100, row)


class Tokens(Refused):
    def test_bytes(self):
        for byte in list(range(0, 10)) + list(range(11, 32)) + list(range(127, 256)):
            self.refused([byte], -2, 1, 0)
            self.refused(as_bytes("module a ") + [byte], -2, 1, 9)
            self.refused(as_bytes("module a") + [byte], -2, 1, 8)
            self.refused(as_bytes("module a #b") + [byte, 10], -2, 1, 11)
            self.refused(as_bytes("module a #") + [byte], -2, 1, 10)
            self.refused(as_bytes(START + '"b') + [byte, 34], -2, 1, len(START) + 2)
        for byte in as_bytes("!$&'?@\\_`|~"):
            self.refused(as_bytes("module a ") + [byte], -2, 1, 9)
            self.refused([byte], -2, 1, 0)
            self.assertEqual(self.asked(as_bytes("module a #") + [byte])[0], 0)
        for byte in list(range(33, 127)):
            self.assertEqual(self.asked(as_bytes("module a #") + [byte])[0], 0)
            self.assertEqual(self.asked(as_bytes(START + '"x') + [byte] + as_bytes('"'))[0] == 0, byte not in (34, 92))

    def test_gaps(self):
        self.assertEqual(laid(";;\n ;module;;a\n;"), "module a\n")
        self.refused("", -2, 3, 0)
        self.refused(" \n;", -2, 3, 3)
        self.refused("# only", -2, 3, 6)

    def test_names(self):
        self.assertEqual(self.asked("module " + "a" * 31)[0], 0)
        self.refused("module " + "a" * 32, -2, 1, 7)
        self.assertEqual(self.asked("module a" + "9_" * 15)[0], 0)
        self.refused("module a" + "9_" * 15 + "z", -2, 1, 7)
        self.refused("module " + "a" * 40, -2, 1, 7)
        self.assertEqual(self.asked("module a_")[0], 0)
        self.refused("module _a", -2, 1, 7)
        self.assertEqual(laid("module lets use ifs use module_ use in2"), "module lets\nuse ifs\nuse module_\nuse in2\n")

    def test_keywords(self):
        words = """account and as away both break catch clear cut decimal double down else error extended false fibre
        finally five flags flush fn for fraction from giving half if in inexact interval into invalid is leave let
        list make match module near nearaway nearcut next not of only or out overflow packed picture post precision
        raise record resume return rounding say single small spawn stack text then to trap true truth try underflow
        up use value while whole with yield zero""".split()
        self.assertEqual(len(words), 80)
        for word in words:
            self.refused("module " + word, -2, 2, 7)
            self.assertEqual(self.asked("module " + word + "0")[0], 0)
            self.assertEqual(self.asked("module " + word + "_")[0], 0)
            self.assertEqual(self.asked("module " + word + "q")[0], 0)

    def test_codes(self):
        for code in ("AB", "A1", "ABCDEFGH", "A2345678", "ABC"):
            self.assertEqual(laid("module a account b " + code), "module a\n\naccount b " + code + "\n")
        for code in ("A", "ABCDEFGHI", "A23456789", "A_", "Ab", "A" * 100):
            self.refused("module a account b " + code, -2, 1, 19)
        # A code ends before a small letter and _.
        self.refused("module a account b ABc", -2, 2, 21)
        self.refused("module a account b AB_", -2, 1, 21)

    def test_first_and_last_of_their_kind(self):
        # The bytes right before and right behind letters and digits are none.
        for words in ("a", "z", "az", "zaz_09", "AZ", "ZA09", "AB[1]", "0", "9", "1/9", "90m"):
            self.value(words)
        for words in ("ab`", "AB@", "AB`", "10@", "10`", "1m@", "ab@", "ab`c", "AB@C"):
            self.value(words, 1, 2)
        self.value("zz{", 2, 2)
        self.value("AZ{", 2, 2)
        self.value("19:", 2, 2)
        self.value("az:", 2, 2)
        self.value("AZ:", 2, 2)
        self.value("1.5e0m:", 2, 6)
        self.value("1.:", 2, 2)
        self.value("1./", 2, 2)
        for words in ("1.5`", "1e5m`"):
            self.value(words, 1, len(words) - 1)

    def test_signs(self):
        for words, layout in (("a->b", None), ("a- >b", None), ("a<=b", "a <= b"), ("a< =b", None), ("a!=b", "a != b"),
                              ("a//b", "a // b"), ("a/ /b", None), ("a==b", "a == b"), ("a= =b", None),
                              ("[a..b]", "[a .. b]"), ("[a. .b]", None), ("a>=b", "a >= b"), ("a%b", "a % b"),
                              ("a^b", "a ^ b"), ("a<-b", "a < -b"), ("a--b", "a - -b"), ("a*b", "a * b")):
            found = self.asked(START + words)
            if layout is None:
                self.assertEqual(found[:2], [-2, 2], words)
            else:
                self.assertEqual(as_words(found[2:]), "module a\n\nlet k = " + layout + "\n")
        self.value("a ! b", 1, 2)
        self.value("a !", 1, 2)
        self.value("a !! b", 1, 2)
        self.value("[1...2]", 2, 4)
        self.value("a <> b", 2, 3)
        self.value("a === b", 2, 4)
        self.value("a /// b", 2, 4)

    def test_first_digits(self):
        for words in ("0", "7", "10", "0.5", "0m", "1234567890", "0.0", "00p", "007p", "0.00d"):
            self.value(words)
        for words in ("00", "01", "007", "00.5", "01m", "01e1m", "00m"):
            self.value(words, 1, 0)

    def test_marks(self):
        for mark in "mxdship":
            self.value("12" + mark)
        for mark in "mxdshi":
            self.value("1.5" + mark)
        for mark in "abcefgjklnoqrtuvwyz":
            self.value("12" + mark, 1, 0)
        for mark in ("M", "P", "_", "mm", "pp", "m1", "p1", "m_", "xA", "e", "E5", "eX", "ms", "m9", "_1", "pm"):
            self.value("12" + mark, 1, 0)

    def test_packed_numbers(self):
        self.value("0p")
        self.value("1" * 31 + "p")
        self.value("0" * 31 + "p")
        self.value("1" * 32 + "p", 1, 0)
        self.value("0" * 32 + "p", 1, 0)
        self.value("1e5p", 1, 0)
        self.value("1.0p", 1, 0)
        self.value("1e0p", 1, 0)
        self.value("1" * 32 + "m")

    def test_exponents(self):
        for words in ("1e5m", "1e0m", "1e-5m", "1.5e10x", "1e12345d", "0e1s", "1e99999h", "1e-99999i", "0.0e0m"):
            self.value(words)
        for words in ("1e5", "1.5e5", "1e0", "1e-5", "1e123456m", "1e-123456m", "1e05m", "1e00m", "1e-0m", "1e-05m",
                      "1e-00m", "1e", "1em", "1e5e5m", "1e5q", "1e5mm", "1e5_"):
            self.value(words, 1, 0)
        # e- without a digit is no exponent: the mark is e.
        self.value("1e-", 1, 0)
        self.value("1e-m", 1, 0)
        self.value("1e+5m", 1, 0)
        self.value("12m-1")
        self.value("12-e")

    def test_points(self):
        self.value("1.5")
        self.value("1.a")
        self.value("1.5.a")
        self.value("1.", 3, 2)
        self.value("1.5.6", 2, 4)
        self.value("1.e5")
        self.value("1.m")
        self.value("[1..2]")
        self.value("1..2", 2, 1)

    def test_long_numbers(self):
        self.value("1" * 255)
        self.value("1" * 256, 1, 0)
        self.value("1" * 254 + "m")
        self.value("1" * 255 + "m", 1, 0)
        self.value("1." + "0" * 253)
        self.value("1." + "0" * 254, 1, 0)
        self.value("1." + "0" * 249 + "e-1m")
        self.value("1." + "0" * 250 + "e-1m", 1, 0)

    def test_items(self):
        for words in ('""', '"a"', '"\\""', '"\\\\"', '"\\n"', '"#;"', '" "', '"~"', '"\\\\\\""'):
            self.value(words)
        self.value('"\\a"', 1, 1)
        self.value('"\\N"', 1, 1)
        self.value('"ab\\t"', 1, 3)
        self.value('"\\ "', 1, 1)
        self.value('"\\\n"', 1, 1)
        self.value('"a\nb"', 1, 2)
        self.value('"\n', 1, 1)
        self.value('"\\\\\\"', 3, 5)
        self.refused(as_bytes(START + '"\\') + [200], -2, 1, len(START) + 1)

    def test_texts_without_end(self):
        for words in ('"', '"a', '"a\\', '"a\\"', '"\\', '"\\n'):
            self.value(words, 3, len(words))

    def test_many_items(self):
        for item in ("a", '\\"', "\\\\", "\\n"):
            self.value('"' + item * 1024 + '"')
            for extra in ("a", '\\"', "\\n", "\\q", "\n"):
                self.value('"' + item * 1024 + extra + '"', 1, 1 + 1024 * len(item))
            self.value('"' + item * 1025, 1, 1 + 1024 * len(item))
            self.value('"' + item * 1024 + "\\", 1, 1 + 1024 * len(item))
            self.value('"' + item * 1024, 3, 1 + 1024 * len(item))
            self.value('"' + item * 1023 + "\\", 3, 2 + 1023 * len(item))
            self.value('"' + item * 1023 + "\\x", 1, 1 + 1023 * len(item))
            self.value('"' + item * 1023 + "\n", 1, 1 + 1023 * len(item))
        self.refused(as_bytes(START + '"' + "a" * 1024) + [200], -2, 1, len(START) + 1025)
        self.value('"' + "a" * 1024 + '""b"', 2, 1026)


if __name__ == "__main__":
    unittest.main()
