"""Long and deep texts that may be handed in are answered, not ended by a limit of Python's."""
import subprocess
import sys
import unittest

from laidout.layouts import format_text, is_laid
from tests.helper import (answer, as_bytes, as_words, cost_answer, cost_of, edits_answer, edits_to, folds_answer,
                          folds_of, laid, laid_value, outline_answer, outline_of, place_answer, places_between,
                          same_answer, split_text)

START = "module a let k="
FN = "module a fn f(){"

# What is long or deep in one way or another; each is a program.
TEXTS = {
    "arguments": START + "f(" + "a," * 2000 + "a)",
    "list": START + "[" + "a*b+c," * 670 + "a]",
    "lists": START + "[" + ",".join(["[a,b]"] * 650) + "]",
    "say": FN + "say " + "a," * 2000 + "a}",
    "calls": FN + "say " + "f(a)," * 800 + "a}",
    "fields": "module a record r{" + "x:t," * 1000 + "y:u}",
    "else if": FN + "if a{}" + "else if f(a){}" * 288 + "}",
    "else if rows": FN + "if a{}" + "else if(a+a)*(a+a)==a{}" * 170 + "}",
    "statements": FN + "a=b " * 1000 + "}",
    "blocks": FN + "if a{" * 98 + "}" * 98 + "}",
    "brackets": START + "(" * 100 + "a" + ")" * 100,
    "calls within": START + "f(a," * 100 + "a" + ")" * 100,
    "lists within": START + "[a,b,[" * 50 + "]" * 100,
    "many within": START + "[" + ",".join(["[" * 90 + "1" + "]" * 90] * 21) + "]",
    "sorts": "module a let k:" + "fn()->" * 670 + "whole=1",
    "many sorts": "module a fn f(x:fn(" + "t," * 2000 + "t)){}",
    "names": "module a fn f[" + "t," * 2000 + "t](){}",
    "uses": "module a " + "use b " * 670,
    "lets": "module a " + "let b=1 " * 500,
    "rows": START + "a" + "+a" * 100,
    "powers": START + "a" + "^a" * 100,
    "signs": START + "-" * 100 + "a",
    "ifs": START + "if a then f(b) else " * 49 + "c",
    "ifs first": START + "if " * 100 + "a" + " then b else c" * 100,
    "suffixes": START + "f" + "(a)" * 100,
    "indexes": START + "f" + "[f(a)]" * 49,
    "number": START + "1" * 255,
    "text": START + "\"" + "\\n" * 1024 + "\"",
    "comment": "module a #" + "x" * 4000,
    "comments": "module a" + "\n#" * 2000,
    "comments within": START + "[" + "#\na," * 800 + "a]",
    "gaps": "module" + " \n;" * 1300 + "a",
    "flags": START + "only(" + "zero," * 700 + "zero)",
    "modes": FN + "with " + "flush in," * 400 + "flush in{}}",
    "traps": FN + "with trap" + " zero" * 700 + "{}}",
    "cases": FN + "match a{" + "is t b{}" * 450 + "}}",
    "make": START + "make r(" + "x:1," * 900 + "x:1)",
    "chain": FN + "a" + ".b" * 98 + "=1}",
    "casts": START + "a" + " as t" * 100,
}


class Large(unittest.TestCase):
    def test_answered(self):
        for name, text in TEXTS.items():
            self.assertLessEqual(len(text), 4096, name)
            for width in (20, 80, 255):
                found = answer(text, width)
                self.assertEqual(found[:2], [0, len(found) - 2], name)
                self.assertEqual([part[:2] for part in split_text(as_words(found[2:]))],
                                 [part[:2] for part in split_text(text)], name)
                self.assertEqual(is_laid(width, as_bytes(text)), [0, 0], name)
                if found[1] <= 4096:
                    self.assertEqual(format_text(width, found[2:]), found, name)
                layout = as_words(found[2:])
                self.assertEqual(cost_answer(text, width), [0, *cost_of(layout, width)], name)
                self.assertEqual(edits_answer(text, width), edits_to(text, layout), name)

    def test_places(self):
        for name, text in TEXTS.items():
            layout = as_words(answer(text, 40)[2:])
            for back, before, after in ((0, text, layout), (1, layout, text)):
                goes = places_between(before, after)
                for at in (len(before) // 2, len(before) - 2, len(before)):
                    self.assertEqual(place_answer(text, at, back, 40), [0, goes[at]], name)
                self.assertEqual(place_answer(text, len(before) + 1, back, 40), [-4], name)

    def test_same(self):
        for name, text in TEXTS.items():
            layout = as_words(answer(text, 20)[2:])
            for one, other in ((text, text), (text, layout), (layout, text)):
                self.assertEqual(same_answer(one, other), [0, 1] if max(len(one), len(other)) <= 4096 else [-1], name)
            self.assertEqual(same_answer(text, "module a"), [0, int(name == "gaps")], name)

    def test_lines(self):
        for name, text in TEXTS.items():
            layout = as_words(answer(text, 20)[2:])
            for words in (text, text if "#" in text else text.replace(" ", "\n"), layout):
                if len(words) > 4096:
                    self.assertEqual((outline_answer(words), folds_answer(words)), ([-1], [-1]), name)
                else:
                    self.assertEqual(outline_answer(words), outline_of(words), name)
                    self.assertEqual(folds_answer(words), folds_of(words), name)

    def test_few_calls_within_one_another(self):
        # The package goes through what's nested by loops: it answers where Python allows few calls.
        program = ("import sys\n"
                   "from laidout.layouts import cost, edits, folds, format_text, is_laid, outline, place, same\n"
                   "for text in sys.stdin.read().split('\\t'):\n"
                   "    numbers = list(text.encode())\n    sys.setrecursionlimit(60)\n"
                   "    found = [call(20, numbers)[0] for call in (format_text, is_laid, cost, edits)]\n"
                   "    found += [place(20, 9, 0, numbers)[0], place(20, 9, 1, numbers)[0], same(numbers, numbers)[0]]\n"
                   "    found += [outline(numbers)[0], folds(numbers)[0]]\n"
                   "    sys.setrecursionlimit(1000)\n    print(*found)\n")
        texts = list(TEXTS.values()) + [START + "if " * 1300, "module a let k:" + "fn()->" * 670, "(" * 4096]
        found = subprocess.run([sys.executable, "-c", program], input="\t".join(texts), capture_output=True, text=True,
                               check=True)
        self.assertEqual(found.stdout.split(), ["0"] * 9 * len(TEXTS) + ["-2"] * 18 + ["-6"] * 9)

    def test_long_lines(self):
        self.assertEqual(laid("module a #" + "x" * 4000), "module a #" + "x" * 4000 + "\n")
        self.assertEqual(laid_value("only(" + "zero," * 700 + "zero)", 20),
                         ["let k = only(" + "zero, " * 700 + "zero)"])
        self.assertEqual(laid_value("f(" + "a," * 2000 + "a)"), ["let k = f("] + ["  a,"] * 2000 + ["  a", ")"])

    def test_faults_at_the_end(self):
        for text, fault in ((START + "if " * 1300, 3), ("module a let k:" + "fn()->" * 670, 3)):
            self.assertEqual(answer(text), [-2, fault, len(text)])
            self.assertEqual(answer(text + "!"), [-2, 1, len(text)])
            self.assertEqual(answer(text + ")"), [-2, 2, len(text)])

    def test_many_beside_one_another(self):
        # Each pair of groups on the one line is broken only where it saves bytes.
        text = TEXTS["else if"]
        for width in (20, 40, 80, 255):
            beyond, lines = cost_of(laid(text, width), width)
            self.assertLess(lines, 2 * 289 + 10)
            if width > 20:
                self.assertEqual(beyond, 0)


if __name__ == "__main__":
    unittest.main()
