"""Comments behind and by themselves, in every place where a gap may be, with the indents told for them."""
import random
import unittest

from tests.helper import Reference, answer, as_words, join_tokens, laid, laid_body, laid_value, random_tokens, split_text


class Comments(unittest.TestCase):
    def whole(self, text, *lines):
        for width in (20, 80):
            self.assertEqual(laid(text, width), "\n".join(lines) + "\n")

    def body(self, text, *lines):
        self.assertEqual(laid_body(text), list(lines))

    def value(self, text, *lines):
        self.assertEqual(laid_value(text), list(lines))

    def test_at_the_beginning(self):
        self.whole("# one\nmodule a", "# one", "module a")
        self.whole(" ;\n\n  # one\nmodule a", "# one", "module a")
        self.whole("# one\n# two\nmodule a", "# one", "# two", "module a")
        self.whole("# one\n\n\n# two\n\nmodule a", "# one", "", "# two", "", "module a")
        self.whole("#\nmodule a", "#", "module a")

    def test_at_the_end(self):
        self.whole("module a # one", "module a # one")
        self.whole("module a;# one\n", "module a # one")
        self.whole("module a# one", "module a # one")
        self.whole("module a\n# one", "module a", "# one")
        self.whole("module a # one\n   # two\n# three", "module a # one", "# two", "# three")
        self.whole("module a\n\n# one\n\n\n# two\n\n", "module a", "", "# one", "", "# two")
        self.whole("module a # one\n\n# two", "module a # one", "", "# two")
        self.whole("module a let b = 1\n  # one\n", "module a", "", "let b = 1", "# one")
        self.whole("module a fn f(){}\n\n\n# one\n", "module a", "", "fn f() {}", "", "# one")

    def test_blanks_at_the_end(self):
        self.whole("module a #   \n# b  ", "module a #", "# b")
        self.whole("module a # one;  \n", "module a # one;")
        self.whole("module a #  one  two  ;  ;", "module a #  one  two  ;  ;")
        self.whole("# #  \nmodule a", "# #", "module a")
        self.whole("module a #\"\n", "module a #\"")

    def test_header(self):
        self.whole("module # one\na", "module # one", "  a")
        self.whole("module\n# one\na", "module", "  # one", "  a")
        self.whole("module a\n# one\nuse # two\nb", "module a", "# one", "use # two", "  b")

    def test_before_lines(self):
        self.body("f() # one\ng()", "f() # one", "g()")
        self.body("f()\n# one\ng()", "f()", "# one", "g()")
        self.body("f() # one\n# two\n  # three\ng()", "f() # one", "# two", "# three", "g()")

    def test_in_blocks(self):
        self.body("if a { # one\nf()\n# two\n}", "if a { # one", "  f()", "  # two", "}")
        self.body("if a {\n# one\nf() # two\n}", "if a {", "  # one", "  f() # two", "}")
        self.body("if a { # one\n}", "if a { # one", "}")
        self.body("if a {\n# one\n}", "if a {", "  # one", "}")
        self.body("if a { # one\n# two\n}", "if a { # one", "  # two", "}")
        self.body("if a { if b {\n# one\n}\n# two\n}",
                  "if a {", "  if b {", "    # one", "  }", "  # two", "}")
        self.body("match a { # one\n}", "match a { # one", "}")
        self.body("match a {\n# one\nis whole b {}\n# two\nelse {}\n# three\n}",
                  "match a {", "  # one", "  is whole b {}", "  # two", "  else {}", "  # three", "}")

    def test_around_blocks(self):
        self.body("if a # one\n{}", "if a # one", "  {}")
        self.body("if a\n# one\n{ f() }", "if a", "  # one", "  {", "  f()", "}")
        self.body("if a {} # one\nelse {}", "if a {} # one", "  else {}")
        self.body("if a {}\n# one\nelse {}", "if a {}", "  # one", "  else {}")
        self.body("if a {} else # one\nif b {}", "if a {} else # one", "  if b {}")
        self.body("try {} # one\ncatch # two\ne # three\n{} # four\nfinally # five\n{}",
                  "try {} # one", "  catch # two", "  e # three", "  {} # four", "  finally # five", "  {}")
        self.body("while # one\na {}", "while # one", "  a {}")
        self.body("for # one\ni # two\nin # three\na # four\nto # five\nb {}",
                  "for # one", "  i # two", "  in # three", "  a # four", "  to # five", "  b {}")

    def test_declarations(self):
        self.whole("module a let # one\nk # two\n: # three\nwhole # four\n= # five\n1",
                   "module a", "", "let # one", "  k # two", "  : # three", "  whole # four", "  = # five", "  1")
        self.whole("module a account # one\nb # two\nAB", "module a", "", "account # one", "  b # two", "  AB")
        self.whole("module a fn f # one\n(\n# two\n) # three\n-> # four\nt # five\n{}",
                   "module a", "", "fn f # one", "  (", "  # two", "  ) # three", "  -> # four", "  t # five", "  {}")
        self.whole("module a fn f[ # one\nt # two\n, # three\nu\n# four\n](){}",
                   "module a", "", "fn f[ # one", "  t # two", "  , # three", "  u", "  # four", "  ]() {}")

    def test_records(self):
        self.whole("module a record r { # one\nx: whole # two\n, # three\ny # four\n: text # five\n}",
                   "module a", "", "record r { # one", "  x: whole # two", "    , # three", "  y # four",
                   "    : text # five", "}")
        self.whole("module a record r {\n# one\nx: whole,\n# two\ny: text\n# three\n}",
                   "module a", "", "record r {", "  # one", "  x: whole,", "  # two", "  y: text", "  # three", "}")
        # Without fields nothing is told before the closing one: it's one more.
        self.whole("module a record r { # one\n}", "module a", "", "record r { # one", "  }")
        self.whole("module a record r {\n# one\n}", "module a", "", "record r {", "  # one", "  }")

    def test_calls(self):
        self.value("f( # one\na)", "let k = f( # one", "  a", ")")
        self.value("f(a # one\n)", "let k = f(", "  a # one", ")")
        self.value("f(\n# one\na\n# two\n,\n# three\nb\n# four\n)",
                   "let k = f(", "  # one", "  a", "    # two", "    ,", "  # three", "  b", "  # four", ")")
        self.value("f # one\n(a)", "let k = f # one", "  (a)")
        self.value("f\n# one\n(a)", "let k = f", "  # one", "  (a)")
        self.value("f( # one\n)", "let k = f( # one", "  )")
        self.value("f(\n# one\n)", "let k = f(", "  # one", "  )")
        self.value("f(a) # one\n(b)", "let k = f(a) # one", "  (b)")
        self.value("f(g(a # one\n), b)", "let k = f(", "  g(", "    a # one", "  ),", "  b", ")")
        self.value("f(g(a), # one\nh(b))", "let k = f(", "  g(a), # one", "  h(b)", ")")

    def test_lists(self):
        self.value("[ # one\na, b\n# two\n]", "let k = [ # one", "  a,", "  b", "  # two", "]")
        self.value("[ # one\n]", "let k = [ # one", "  ]")
        self.value("[ # one\na # two\n.. # three\nb # four\n]",
                   "let k = [ # one", "  a # two", "  .. # three", "  b # four", "  ]")
        self.value("[\n# one\na .. b\n# two\n]", "let k = [", "  # one", "  a .. b", "  # two", "  ]")
        self.value("a[ # one\nb # two\n]", "let k = a[ # one", "  b # two", "  ]")
        self.value("( # one\nb\n# two\n)", "let k = ( # one", "  b", "  # two", "  )")
        self.value("only( # one\nzero # two\n, small\n# three\n)",
                   "let k = only( # one", "  zero # two", "  , small", "  # three", "  )")
        self.value("make # one\nr # two\n. # three\ns # four\n( # five\nx # six\n: # seven\n1)",
                   "let k = make # one", "  r # two", "  . # three", "  s # four", "  ( # five",
                   "  x # six", "    : # seven", "    1", ")")

    def test_rows(self):
        self.value("a # one\n+ b", "let k = a # one", "  + b")
        self.value("a + # one\nb", "let k = a", "  + # one", "    b")
        self.value("a + b # one\n+ c", "let k = a", "  + b # one", "  + c")
        self.value("a * b # one\n+ c", "let k = a * b # one", "  + c")
        self.value("a * # one\nb + c", "let k = a", "    * # one", "      b", "  + c")
        self.value("# one\na + b", "let k = # one", "  a + b")
        self.value("\n# one\na + b", "let k =", "  # one", "  a + b")
        self.value("a + b # one", "let k = a + b # one")
        self.value("a == b\n# one\nand c", "let k = a == b", "  # one", "  and c")

    def test_if(self):
        self.value("if # one\na then b else c", "let k = if # one", "    a", "  then b", "  else c")
        self.value("if a # one\nthen b else c", "let k = if a # one", "  then b", "  else c")
        self.value("if a then # one\nb else c", "let k = if a", "  then # one", "    b", "  else c")
        self.value("if a then b else c # one", "let k = if a then b else c # one")

    def test_words(self):
        self.value("not # one\na", "let k = not # one", "  a")
        self.value("- # one\na", "let k = - # one", "  a")
        self.value("a # one\n^ # two\nb", "let k = a # one", "  ^ # two", "  b")
        self.value("a # one\nas # two\nwhole # three\n5 # four\nnear",
                   "let k = a # one", "  as # two", "  whole # three", "  5 # four", "  near")
        self.value("resume # one\na # two\ngiving # three\nb",
                   "let k = resume # one", "  a # two", "  giving # three", "  b")
        self.value("picture # one\n\"9\" # two\nof # three\na", "let k = picture # one", "  \"9\" # two", "  of # three",
                   "  a")
        self.body("post a # one\n: b # two\nfrom c # three\n\"x\"",
                  "post a # one", "  : b # two", "  from c # three", "  \"x\"")
        self.body("a # one\n. # two\nb # three\n[1] = 1", "a # one", "  . # two", "  b # three", "  [1] = 1")
        self.body("with trap zero # one\nsmall # two\n, # three\nflush in {}",
                  "with trap zero # one", "  small # two", "  , # three", "  flush in {}")

    def test_rows_behind_comments(self):
        # The comment's indent is that of the token behind it, which a broken row moves.
        self.assertEqual(laid_value("f(\n# one\naaaaaaaa + bbbbbb)", 20),
                         ["let k = f(", "  # one", "  aaaaaaaa + bbbbbb", ")"])
        self.assertEqual(laid_value("f(\n# one\naaaaaaaaaaa + bbbbbb)", 20),
                         ["let k = f(", "    # one", "    aaaaaaaaaaa", "    + bbbbbb", ")"])
        self.assertEqual(laid_value("f(\n# one\naaaaaaa * bbbbb + cccccccccc)", 20),
                         ["let k = f(", "    # one", "    aaaaaaa * bbbbb", "    + cccccccccc", ")"])
        self.assertEqual(laid_value("f( # 45678901234\naaaaaaaaaaa + bbbbbb)", 20),
                         ["let k = f( # 45678901234", "    aaaaaaaaaaa", "    + bbbbbb", ")"])

    def test_comments_behind_at_the_width(self):
        for gap, after in (("", []), ("\nlet c = 1", ["let c = 1"]), ("\n# more", ["# more"])):
            self.assertEqual(laid_value("f(a) # 56789" + gap, 20), ["let k = f(a) # 56789"] + after)
            self.assertEqual(laid_value("f(a) # 567890" + gap, 20), ["let k = f(", "  a", ") # 567890"] + after)
            self.assertEqual(laid_value("a + b # 6789" + gap, 20), ["let k = a + b # 6789"] + after)
            self.assertEqual(laid_value("a + b # 67890" + gap, 20), ["let k = a", "  + b # 67890"] + after)
        self.assertEqual(laid_value("[f(aaaaaaa), # 678\n1]", 20), ["let k = [", "  f(aaaaaaa), # 678", "  1", "]"])
        self.assertEqual(laid_value("[f(aaaaaaa), # 6789\n1]", 20), ["let k = [", "  f(aaaaaaa), # 6789", "  1", "]"])
        self.assertEqual(laid_value("[f(aaaaaaa), # 67890\n1]", 20),
                         ["let k = [", "  f(", "    aaaaaaa", "  ), # 67890", "  1", "]"])

    def test_comments_cost(self):
        # A comment behind the last token is within the line's bytes.
        self.assertEqual(laid_value("f(a) # 567", 20), ["let k = f(a) # 567"])
        self.assertEqual(laid_value("f(a) # 56789012", 20), ["let k = f(", "  a", ") # 56789012"])
        self.assertEqual(laid_value("f(a) # 56789012\n# more", 20), ["let k = f(", "  a", ") # 56789012", "# more"])
        self.assertEqual(laid_body("x = f(a) # 56789012345\ny = 1", 20),
                         ["x = f(", "  a", ") # 56789012345", "y = 1"])
        # A broken row would put the comment further to the right.
        self.assertEqual(laid_value("f(\n# 45678901234567890\naaaaaaaaaaa + bbb)", 20),
                         ["let k = f(", "  # 45678901234567890", "  aaaaaaaaaaa + bbb", ")"])
        self.assertEqual(laid_value("f(\n# 45678901234567\naaaaaaaaaaa + bbbbbb)", 20),
                         ["let k = f(", "    # 45678901234567", "    aaaaaaaaaaa", "    + bbbbbb", ")"])
        self.assertEqual(laid_value("f(\n# 456789012345678901\naaaaaaaaaa + bbbbbb)", 20),
                         ["let k = f(", "  # 456789012345678901", "  aaaaaaaaaa + bbbbbb", ")"])

    def test_every_gap(self):
        program = ("module a use b let k : fn ( t , u ) -> list of packed 5 = if a then not b else - c * d + e as whole 5 "
                   "near record r { x : fibre of t , y : a . b } record s { } account c AB fn f [ t , u ] ( x : t , y : u "
                   ") -> t { a [ 1 ] . b = f ( 1 , g ( 2 ) ) ( ) say [ 1 .. 2 ] , [ ] , [ a , b ] match x { is whole y { "
                   "leave } else { try { } catch e { } finally { } } } if a == b or c { } else if d { f ( ) } else { } "
                   "with trap zero small , flush in { post a : b from c \"x\" } yield a into b return make a . r ( x : "
                   "only ( zero , small ) , y : resume a giving spawn b ^ ( c ) ) }")
        program = program.replace("spawn b ^", "b ^")
        pieces = [piece for _, piece, _, _ in split_text(program)]
        for at in range(len(pieces) + 1):
            for comment in (" # one\n", "\n# one\n", " # one\n# two\n", "\n\n# one\n\n"):
                text = " ".join(pieces[:at]) + comment + " ".join(pieces[at:])
                read = Reference(text)
                found = answer(text, 200)
                choice = []
                for index in range(len(read.groups)):
                    choice.append(read.forced(index))
                self.assertEqual(as_words(found[2:]), read.lay_out(choice), text)

    def test_random_comments(self):
        rng = random.Random(77)
        for _ in range(300):
            row = random_tokens(rng, rng.choice([20, 60]))
            text = join_tokens(rng, row, 0.3)
            if len(text) > 4096:
                continue
            found = answer(text, rng.choice([20, 40, 80]))
            self.assertEqual([part[:2] for part in split_text(as_words(found[2:]))],
                             [part[:2] for part in split_text(text)])


if __name__ == "__main__":
    unittest.main()
