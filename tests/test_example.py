"""Each line of the document's example, to the byte."""
import unittest

from laidout.layouts import format_text, is_laid
from tests.helper import as_bytes, as_words, cost_of, laid, laid_body

PROGRAM = "module a use b let k=2;fn f(x:whole)->whole{return g(x,[1,2])}"

BY_80 = """module a
use b

let k = 2

fn f(x: whole) -> whole {
  return g(x, [1, 2])
}
"""

BY_20 = """module a
use b

let k = 2

fn f(
  x: whole
) -> whole {
  return g(
    x,
    [1, 2]
  )
}
"""


class Example(unittest.TestCase):
    def test_by_80(self):
        self.assertEqual(format_text(80, as_bytes(PROGRAM)), [0, len(BY_80)] + as_bytes(BY_80))
        self.assertEqual(cost_of(BY_80, 80), (0, 8))

    def test_by_20(self):
        self.assertEqual(format_text(20, as_bytes(PROGRAM)), [0, len(BY_20)] + as_bytes(BY_20))
        self.assertEqual(cost_of(BY_20, 20), (0, 13))

    def test_widths_between(self):
        self.assertEqual(laid(PROGRAM, 25), BY_80)
        self.assertEqual(laid(PROGRAM, 24).split("\n")[5:8], ["fn f(", "  x: whole", ") -> whole {"])
        self.assertEqual(laid(PROGRAM, 24).split("\n")[8], "  return g(x, [1, 2])")
        self.assertEqual(laid(PROGRAM, 21).split("\n")[8], "  return g(x, [1, 2])")

    def test_comments(self):
        for width in (20, 80):
            self.assertEqual(laid_body("say a+b # sum", width), ["say a + b # sum"])
            self.assertEqual(laid_body("say f(1, # one\n2)", width), ["say f(", "  1, # one", "  2", ")"])
            found = laid("module a fn main(){# empty\n}", width)
            self.assertEqual(found, "module a\n\nfn main() { # empty\n}\n")

    def test_module_alone(self):
        for width in (20, 80):
            self.assertEqual(laid("module a", width), "module a\n")
            self.assertEqual(format_text(width, as_bytes("module")), [-2, 3, 6])

    def test_is_laid(self):
        for width, layout in ((80, BY_80), (20, BY_20)):
            self.assertEqual(is_laid(width, as_bytes(layout)), [0, 1])
        self.assertEqual(is_laid(20, as_bytes(BY_80)), [0, 0])
        self.assertEqual(is_laid(80, as_bytes(BY_20)), [0, 0])
        self.assertEqual(is_laid(80, as_bytes(PROGRAM)), [0, 0])
        self.assertEqual(is_laid(80, as_bytes(BY_80[:-1])), [0, 0])
        self.assertEqual(is_laid(80, as_bytes(BY_80 + "\n")), [0, 0])
        self.assertEqual(is_laid(80, as_bytes(" " + BY_80)), [0, 0])
        self.assertEqual(is_laid(80, as_bytes(BY_80.replace("\n\n", "\n\n\n", 1))), [0, 0])
        self.assertEqual(is_laid(80, as_bytes(BY_80.replace("k = 2", "k =  2"))), [0, 0])
        self.assertEqual(is_laid(80, as_bytes(BY_80.replace("k = 2\n", "k = 2;\n"))), [0, 0])
        self.assertEqual(is_laid(80, as_bytes(BY_80.replace("k = 2\n", "k = 2 \n"))), [0, 0])
        self.assertEqual(is_laid(80, as_bytes("module a")), [0, 0])
        self.assertEqual(is_laid(80, as_bytes("module a\n")), [0, 1])
        self.assertEqual(is_laid(80, as_bytes("module")), [-2, 3, 6])

    def test_laid_is_not_by_length_alone(self):
        self.assertEqual(is_laid(80, as_bytes("module a\nuse\nb ")), [0, 0])
        self.assertEqual(as_words(format_text(80, as_bytes("module a\nuse\nb "))[2:]), "module a\nuse b\n")


if __name__ == "__main__":
    unittest.main()
