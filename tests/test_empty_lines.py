"""Empty lines: where there may be one, where there's always just one, where there's none."""
import unittest

from tests.helper import laid, laid_body


class EmptyLines(unittest.TestCase):
    def whole(self, text, *lines):
        self.assertEqual(laid(text), "\n".join(lines) + "\n")

    def body(self, text, *lines):
        self.assertEqual(laid_body(text), list(lines))

    def test_may_be(self):
        for gap, empty in (("\n", 0), (" ", 0), (";\n;", 0), ("\n\n", 1), ("\n ;\n", 1), ("\n" * 9, 1)):
            between = [""] * empty
            self.body("f()" + gap + "g()", "f()", *between, "g()")
            self.whole("module a" + gap + "use b", "module a", *between, "use b")
            self.whole("module a use b" + gap + "use c", "module a", "use b", *between, "use c")
            self.body("if a {f()" + gap + "g()}", "if a {", "  f()", *between, "  g()", "}")
            self.body("if a {}" + gap + "g()", "if a {}", *between, "g()")
            self.body("match a {is t b {}" + gap + "is u c {}" + gap + "else {}}",
                      "match a {", "  is t b {}", *between, "  is u c {}", *between, "  else {}", "}")
            self.whole("module a let b = 1" + gap + "let c = 2", "module a", "", "let b = 1", *between, "let c = 2")
            self.whole("module a let b = 1" + gap + "account c AB" + gap + "let d = 1",
                       "module a", "", "let b = 1", *between, "account c AB", *between, "let d = 1")
            self.whole("module a" + gap, "module a")
            self.whole(gap + "module a", "module a")
            self.whole("module a\n# one\n" + gap, "module a", "# one")

    def test_always(self):
        for gap in (" ", "\n", "\n\n", "\n;\n \n\n"):
            for declaration in ("let b = 1", "account b AB", "record b {}", "fn b() {}"):
                self.whole("module a" + gap + declaration, "module a", "", declaration)
                self.whole("module a use b" + gap + declaration, "module a", "use b", "", declaration)
                for apart in ("record c {}", "fn c() {}"):
                    self.whole("module a " + declaration + gap + apart, "module a", "", declaration, "", apart)
                    self.whole("module a " + apart + gap + declaration, "module a", "", apart, "", declaration)

    def test_before_comments_between(self):
        self.whole("module a\n# one\nlet b = 1", "module a", "", "# one", "let b = 1")
        self.whole("module a # one\nlet b = 1", "module a # one", "", "let b = 1")
        self.whole("module a # one\n# two\n# three\nlet b = 1", "module a # one", "", "# two", "# three", "let b = 1")
        self.whole("module a # one\n# two\n\n# three\n\n\nlet b = 1",
                   "module a # one", "", "# two", "", "# three", "", "let b = 1")
        self.whole("module a fn f() {}\n# one\n\nlet b = 1", "module a", "", "fn f() {}", "", "# one", "", "let b = 1")
        self.whole("module a let b = 1 # one\n# two\nrecord r {}",
                   "module a", "", "let b = 1 # one", "", "# two", "record r {}")
        self.whole("module a let b = 1 # one\n# two\nlet c = 2", "module a", "", "let b = 1 # one", "# two", "let c = 2")
        self.whole("module a let b = 1\n\n# two\nlet c = 2", "module a", "", "let b = 1", "", "# two", "let c = 2")
        self.whole("module a let b = 1\n# two\n\nlet c = 2", "module a", "", "let b = 1", "# two", "", "let c = 2")
        self.whole("module a let b = 1 # one\n\nlet c = 2", "module a", "", "let b = 1 # one", "", "let c = 2")
        self.whole("# one\n# two\nmodule a", "# one", "# two", "module a")

    def test_lets_within_blocks_are_no_declarations(self):
        self.body("let a = 1 let b = 2 f() let c = 3", "let a = 1", "let b = 2", "f()", "let c = 3")

    def test_none_at_braces(self):
        self.body("if a {\n\n\nf()\n\n\n}\n\n", "if a {", "  f()", "}")
        self.body("\n\nf()\n\n", "f()")
        self.body("match a {\n\nis t b {}\n\n}", "match a {", "  is t b {}", "}")
        self.body("if a {\n\n# one\n\n}", "if a {", "  # one", "}")
        self.body("if a {\n\n}", "if a {}")
        self.body("if a {\n\n# one\n\nf()\n\n# two\n\n}", "if a {", "  # one", "", "  f()", "", "  # two", "}")

    def test_comments_in_blocks(self):
        self.body("if a { # one\n\nf() }", "if a { # one", "", "  f()", "}")
        self.body("if a { # one\n\n# two\n\n}", "if a { # one", "", "  # two", "}")
        self.body("if a { # one\n\n}", "if a { # one", "}")
        self.body("if a { f() # one\n\n# two\n}", "if a {", "  f() # one", "", "  # two", "}")
        self.body("f() # one\n\n\n# two\n# three\n\ng()", "f() # one", "", "# two", "# three", "", "g()")

    def test_none_elsewhere(self):
        self.body("say a,\n\n# one\n\nb\n\n, c", "say a,", "  # one", "  b,", "  c")
        self.body("f(\n\na\n\n,\n\nb\n\n)", "f(a, b)")
        self.body("f(\n\n# one\n\na\n\n# two\n\n)", "f(", "  # one", "  a", "  # two", ")")
        self.body("if a {}\n\nelse {}", "if a {} else {}")
        self.body("if a {}\n\n# one\n\nelse {}", "if a {}", "  # one", "  else {}")
        self.body("try {}\n\ncatch e\n\n{}\n\nfinally {}", "try {} catch e {} finally {}")
        self.body("a\n\n=\n\n1", "a = 1")
        self.whole("module\n\n# one\n\na", "module", "  # one", "  a")
        self.whole("module a record r {\n\n# one\n\nx: t,\n\n# two\n\ny: u\n\n# three\n\n}",
                   "module a", "", "record r {", "  # one", "  x: t,", "  # two", "  y: u", "  # three", "}")

    def test_at_the_ends(self):
        self.whole("\n\n# one\n\n\nmodule a\n\n\n# two\n\n\n# three\n\n\n",
                   "# one", "", "module a", "", "# two", "", "# three")
        self.whole("module a let b = 1\n# two\n\n# three", "module a", "", "let b = 1", "# two", "", "# three")
        self.whole("module a fn f() {}\n# two", "module a", "", "fn f() {}", "# two")
        self.whole("module a # one\n# two", "module a # one", "# two")


if __name__ == "__main__":
    unittest.main()
