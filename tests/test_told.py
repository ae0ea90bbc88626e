"""What stands before each token, form by form, flat and broken."""
import unittest

from tests.helper import laid, laid_body, laid_value, split_text


def spread(words):
    """The same tokens with a line's end in each gap."""
    return " ;\n ".join(piece for _, piece, _, _ in split_text(words))


class Told(unittest.TestCase):
    def flat(self, lay_out, *texts):
        """Each of these texts is laid out as it's written here, however its gaps were."""
        for words in texts:
            lines = words.split("\n")
            self.assertEqual(lay_out(words, 200), lines, words)
            self.assertEqual(lay_out(spread(words), 200), lines, words)

    def tight(self, lay_out, tight, *lines):
        """A text whose gaps are left out is laid out so."""
        self.assertEqual(lay_out(tight, 200), list(lines))

    def broken(self, lay_out, words, width, *lines):
        self.assertEqual(lay_out(words, width), list(lines), words)


def laid_program(words, width):
    """The layout's lines behind those of the module's."""
    lines = laid("module a " + words, width).split("\n")
    assert lines[:2] == ["module a", ""] and lines[-1] == "", lines
    return lines[2:-1]


class Declarations(Told):
    def test_header(self):
        self.assertEqual(laid("module\n\n\na\nuse b use\nc"), "module a\nuse b\nuse c\n")

    def test_let(self):
        self.flat(laid_program, "let k = 2", "let k: whole = 2", "let k: list of whole = [1]")
        self.tight(laid_program, "let k:whole=2", "let k: whole = 2")
        self.flat(laid_body, "let k = 2", "let k: fn(whole) -> text = f")

    def test_record(self):
        self.flat(laid_program, "record r {}", "record r {x: whole}", "record r {x: whole, y: a.b, z: packed 5}")
        self.tight(laid_program, "record r{x:whole,y:text}", "record r {x: whole, y: text}")
        self.tight(laid_program, "record r {\n\n}", "record r {}")
        self.broken(laid_program, "record r{xxxxxx:whole,y:text}", 20,
                    "record r {", "  xxxxxx: whole,", "  y: text", "}")
        self.broken(laid_program, "record rrrrrrrrrr{xxx:whole}", 20, "record rrrrrrrrrr {", "  xxx: whole", "}")

    def test_account(self):
        self.flat(laid_program, "account a AB")

    def test_fn(self):
        self.flat(laid_program, "fn f() {}", "fn f[t]() {}", "fn f[t, u, v](x: t) {}", "fn f() -> whole {}",
                  "fn f(x: whole, y: list of t) -> fibre of t {}", "fn f(x: fn(whole, text) -> truth) {}")
        self.tight(laid_program, "fn f[t,u](x:t,y:u)->t{}", "fn f[t, u](x: t, y: u) -> t {}")
        self.broken(laid_program, "fn ffffffff(x:whole){}", 20, "fn ffffffff(", "  x: whole", ") {}")
        self.broken(laid_program, "fn f[tttttttttt,uuuuuuuu](){}", 20, "fn f[tttttttttt, uuuuuuuu]() {}")
        self.broken(laid_program, "fn f[t,u](x:t,yyyy:u)->t{leave}", 20,
                    "fn f[t, u](", "  x: t,", "  yyyy: u", ") -> t {", "  leave", "}")
        self.broken(laid_program, "fn f(x:fn(whole,text)->truth)->whole{}", 20,
                    "fn f(", "  x: fn(whole, text) -> truth", ") -> whole {}")


class Sorts(Told):
    def test_words(self):
        for sort in ("whole fraction decimal half single double extended interval truth text flags error account "
                     "value fibre named").split():
            self.flat(laid_program, "let k: %s = 1" % sort)
        self.flat(laid_program, "let k: packed 12 = 1", "let k: packed 1.5m = 1", "let k: list of list of text = 1",
                  "let k: fibre of whole = 1", "let k: fibre of fibre = 1", "let k: a.b = 1")

    def test_fn(self):
        self.flat(laid_program, "let k: fn() = 1", "let k: fn() -> whole = 1", "let k: fn(a.b, text) = 1",
                  "let k: fn(fn(t) -> u, list of t) -> list of u = 1", "let k: fn() -> fn() -> whole = 1")
        self.tight(laid_program, "let k:fn(a . b,text)->fn ( )=1", "let k: fn(a.b, text) -> fn() = 1")


class Statements(Told):
    def test_places(self):
        self.flat(laid_body, "a = 1", "a.b = 1", "a[1] = 2", "a.b[i].c = d", "f(x)[1] = 2", "a.f(x).y = 1", "flags = f()")
        self.tight(laid_body, "a . b [ 1 ]=2", "a.b[1] = 2")

    def test_calls(self):
        self.flat(laid_body, "f()", "f(1)", "a.f(1, 2)", "a[1](2)", "f()()", "f(x).g(y)")
        self.tight(laid_body, "f ( 1,2 ) . g ( )", "f(1, 2).g()")
        self.tight(laid_body, "f()g()a=1 b=2", "f()", "g()", "a = 1", "b = 2")
        self.broken(laid_body, "ffff(aaaaaaaa,bbbbbbbb)", 20, "ffff(", "  aaaaaaaa,", "  bbbbbbbb", ")")
        self.broken(laid_body, "aaaa[ffff(aaaa,bbbb)]=g(1)", 20, "aaaa[ffff(", "  aaaa,", "  bbbb", ")] = g(1)")

    def test_blocks(self):
        self.flat(laid_body, "if a {}", "while a {}", "while a {\n  leave\n}", "for i in a {}", "for i in 1 to n {\n  f()\n}",
                  "if a {} else {}", "if a {} else if b {} else {}", "if a {\n  f()\n} else {\n  g()\n}",
                  "if a {\n  f()\n} else if b {\n  next\n} else if c {\n  break\n} else {}")
        self.tight(laid_body, "if a{}else if b{}else{}", "if a {} else if b {} else {}")
        self.tight(laid_body, "if a{if b{f()}}", "if a {", "  if b {", "    f()", "  }", "}")
        self.tight(laid_body, "while a{\n\n}", "while a {}")

    def test_match(self):
        self.flat(laid_body, "match x {}", "match x {\n  is whole a {}\n}", "match x {\n  else {}\n}",
                  "match f(x) {\n  is a.b c {\n    leave\n  }\n  is list of text d {}\n  else {\n    leave\n  }\n}")
        self.tight(laid_body, "match x{is whole a{f()}else{}}",
                   "match x {", "  is whole a {", "    f()", "  }", "  else {}", "}")

    def test_words(self):
        self.flat(laid_body, "return 1", "leave", "break", "next", "raise e", "yield 1", "yield f(x) into y")
        self.tight(laid_body, "leave break next return a", "leave", "break", "next", "return a")

    def test_with(self):
        for mode in ("rounding near", "rounding down", "rounding up", "rounding cut", "precision 12", "precision 1.5m",
                     "trap invalid", "trap small zero overflow underflow inexact stack", "flush in", "flush out",
                     "flush both"):
            self.flat(laid_body, "with %s {}" % mode, "with %s, %s {\n  leave\n}" % (mode, mode))
        self.tight(laid_body, "with rounding up,trap zero,flush in{}", "with rounding up, trap zero, flush in {}")

    def test_try(self):
        self.flat(laid_body, "try {} catch e {}", "try {} finally {}", "try {} catch e {} finally {}",
                  "try {\n  f()\n} catch e {\n  g()\n} finally {\n  h()\n}")
        self.tight(laid_body, "try{}catch e{}finally{}", "try {} catch e {} finally {}")

    def test_say(self):
        self.flat(laid_body, "say a", "say a, b", "say a, f(b), \"c\"")
        self.tight(laid_body, "say a,b", "say a, b")
        self.broken(laid_body, "say aaaaaaaaaa,bbbbbbbb", 20, "say aaaaaaaaaa,", "  bbbbbbbb")
        self.broken(laid_body, "say aaaaaaaaaa,b,c,ddd", 20, "say aaaaaaaaaa,", "  b,", "  c,", "  ddd")
        self.broken(laid_body, "say aaaaaaaaaaaaaaaaaaaaaaaaaaaa", 20, "say aaaaaaaaaaaaaaaaaaaaaaaaaaaa")

    def test_post(self):
        self.flat(laid_body, "post a: b from c", "post a: b from c \"why\"", "post f(x): AB from c.d \"\"")
        self.tight(laid_body, "post a : b from c\"why\"", "post a: b from c \"why\"")
        self.tight(laid_body, "post a:b from c post d:e from f", "post a: b from c", "post d: e from f")


class Expressions(Told):
    def values(self, *texts):
        self.flat(laid_program, *["let k = " + words for words in texts])

    def test_first(self):
        self.values("1", "\"a b\"", "true", "false", "flags", "a", "AB", "only()", "only(invalid)",
                  "only(small, zero, overflow, underflow, inexact, stack)", "(a)", "((a))", "[]", "[a]", "[a, b]",
                  "[a .. b]", "[1 .. f(2)]", "make r()", "make a.r()", "make r(x: 1)", "make a.r(x: 1, y: [2])")
        self.tight(laid_value, "only ( invalid,zero )", "let k = only(invalid, zero)")
        self.tight(laid_value, "make a . r ( x:1,y:2 )", "let k = make a.r(x: 1, y: 2)")
        self.tight(laid_value, "[ 1 .. 2 ]", "let k = [1 .. 2]")
        self.tight(laid_value, "[1..2]", "let k = [1 .. 2]")

    def test_behind(self):
        self.values("f()", "f(1)", "f(1, 2)", "a[1]", "a.b", "a.b[1](2).c", "1(2)", "\"a\".b", "(a)(b)",
                  "[a](b)[c]", "make r()(1)", "only()(1)", "1.a", "AB.c")
        self.tight(laid_value, "a . b [ c ] ( d,e )", "let k = a.b[c](d, e)")

    def test_one(self):
        self.values("-a", "--a", "not a", "not not a", "-a ^ -b", "a ^ b ^ c", "spawn f", "spawn f(x)",
                  "resume f", "resume f giving 1", "resume f giving -resume g giving 2", "picture \"9\" of a",
                  "a as whole", "a as whole 5", "a as packed 5 6 near", "a as whole down", "a as text as a.b as fibre of t",
                  "a as whole 2 up", "a as whole cut", "a as whole nearaway", "a as whole nearcut", "a as whole away",
                  "a as whole five", "a as list of fn() -> whole 5 near")
        self.tight(laid_value, "- - a^- b", "let k = --a ^ -b")

    def test_rows(self):
        for sign in "or and == != < <= > >= + - * / // %".split():
            self.values("a %s b" % sign)
            self.broken(laid_value, "aaaaaaaaaa %s bbbbbbbb" % sign, 20, "let k = aaaaaaaaaa", "  %s bbbbbbbb" % sign)
        self.values("a + b - c", "a * b / c // d % e", "a or b and c or not d", "a + b * c == d and e < f or g")
        self.tight(laid_value, "a+b*-c==d", "let k = a + b * -c == d")
        self.broken(laid_value, "aaaa - bbbb + cccc", 20, "let k = aaaa", "  - bbbb", "  + cccc")

    def test_no_rows(self):
        for words in ("aaaaaaaaaa ^ bbbbbbbbbb", "spawn aaaaaaaaaaaaaaa", "aaaaaaaaaaaa as whole", "not aaaaaaaaaaaaaa",
                      "resume aaaaaa giving bbbb", "picture \"aaaaa\" of bbbb", "[aaaaaaaaa .. bbbbbbbb]",
                      "aaaaaaaaaaaaa[bbbbbbbbbb]", "aaaaaaaaa.bbbbbbbbbbb", "(aaaaaaaaaaaaaaaaaaaaa)",
                      "only(invalid, small, zero)", "a_very_long_name()"):
            self.broken(laid_value, words, 20, "let k = " + words)

    def test_if(self):
        self.values("if a then b else c", "if a then b else if c then d else e",
                  "if if a then b else c then d else e", "f(if a then b else c)", "[if a then b else c .. d]")
        self.broken(laid_value, "if aaaa then bbbb else cccc", 20, "let k = if aaaa", "  then bbbb", "  else cccc")
        self.broken(laid_value, "if a then b else if c then d else e", 30,
                    "let k = if a", "  then b", "  else if c then d else e")
        self.broken(laid_value, "if a then bbbbbb else if c then ddddd else eeeee", 20,
                    "let k = if a", "  then bbbbbb", "  else if c", "    then ddddd", "    else eeeee")

    def test_calls(self):
        self.broken(laid_value, "ff(aaaaa, bbbbb)", 20, "let k = ff(", "  aaaaa,", "  bbbbb", ")")
        self.broken(laid_value, "ff(aaaaaaaaaa)", 20, "let k = ff(", "  aaaaaaaaaa", ")")
        self.broken(laid_value, "[aaaaaa, bbbbbb]", 20, "let k = [", "  aaaaaa,", "  bbbbbb", "]")
        self.broken(laid_value, "make r(x: 1, y: 2)", 20, "let k = make r(", "  x: 1,", "  y: 2", ")")
        self.broken(laid_value, "make a.r(xxxx: 1)", 20, "let k = make a.r(", "  xxxx: 1", ")")

    def test_call_behind_call(self):
        # Either group saves all bytes; the first is flat then.
        self.broken(laid_value, "f(aaaaa)(bbbbb)", 20, "let k = f(aaaaa)(", "  bbbbb", ")")
        self.broken(laid_value, "f(aaaaaaaaaaaa)(b)", 20, "let k = f(", "  aaaaaaaaaaaa", ")(b)")


if __name__ == "__main__":
    unittest.main()
