"""Faults of programs: the first token that no program has there, and texts that end too early."""
import random
import unittest

from tests.helper import (KEYWORDS, SIGNS, Recognizer, answer, as_bytes, deepness, join_tokens, laid, laid_body,
                          random_tokens, split_text)

# Before the bar all is well; the token behind it is what no program has there.
RULE_2 = """
|a
|{
|let
module |module
module |AB
module |1
module |"a"
module a |b
module a |;a
module a use |let
module a use b |c
module a let k = 1 |use b
module a |}
module a |(
module a |if
module a let |1
module a let k |2
module a let k : |1
module a let k : |=
module a let k : whole |:
module a let k = |)
module a let k = |let
module a record |{
module a record r |(
module a record r { |1
module a record r { x |,
module a record r { x : whole |y
module a record r { x : whole , |}
module a record r { x : whole |] }
module a account |AB
module a account b |c
module a account b |1
module a fn |(
module a fn f |{
module a fn f [ |]
module a fn f [ a , |]
module a fn f [ a |)
module a fn f ( |1
module a fn f ( x |)
module a fn f ( x : t , |)
module a fn f ( x : t |}
module a fn f ( ) |let
module a fn f ( ) -> |{
module a fn f ( ) { |1
module a fn f ( ) { |(
module a fn f ( ) { |record
module a fn f ( ) { } |}
module a let k : list |whole
module a let k : list of |of
module a let k : fibre of |=
module a let k : whole |of
module a let k : packed |=
module a let k : packed |a
module a let k : fn |whole
module a let k : fn ( whole , |)
module a let k : fn ( |,
module a let k : fn ( x |: whole ) = 1
module a let k : a . |1
module a let k : a . b |. c
module a let k : |AB
""".strip().split("\n")

IN_FN = """
a |b
a |}
a |1
a . f ( ) |1
a . |1
a . b |}
a [ 1 ] |}
a ( ) |= 1
a ( ) . b |c
a = |}
a = 1 |2
a [ |]
a [ 1 |, 2 ]
a ( 1 , |)
a ( |, 1 )
a ( 1 |]
flags |. a = 1
flags |( )
flags = |=
if |{
if a |b
if a { } else |a
if a { } else { } |else
if a { } else if |{
if a |then
while |{
while a |; ; )
for |in
for i |a
for i in |{
for i in a to |{
for i in a to b |to
match |{
match a { |a
match a { |leave
match a { else { } |is
match a { else { } |else
match a { is |{
match a { is whole |{
match a { is whole a |b
return |}
leave |1
leave |else
with |{
with |near
with rounding |nearaway
with rounding |zero
with rounding near |up
with precision |a
with trap |{
with trap |near
with trap zero , |zero
with trap zero |near
with flush |near
with flush in |out
with flush in , |{
try |a
try { } |}
try { } |else
try { } catch |{
try { } catch e { } |catch
try { } finally { } |catch
try { } finally { } |finally
try { } finally |e
raise |}
say |,
say a , |}
say a b |1
yield |into
yield a into |1
yield a into b |.
post a |b
post a : |from
post a : b |}
post a : b from |,
post a : b from c "x" |"y"
|catch
|finally
|else
""".strip().split("\n")

VALUES = """
if a |else
if a then b |let
if a then b else c |else
if a then b or c |)
a or |)
a or |or
a == b |== c
a < b |>= c
a == |not b
a + |not b
a * |*
- |or
not |)
a as |5
a as |near
a as whole 5 |6
a as whole near |5
a as whole near |up
a as whole |rounding
a as |if
spawn |- a
spawn |spawn a
spawn a |^ 2
spawn |let
resume a |^ 2
resume a giving b |giving c
|giving
picture |a
picture "x" |a
picture "x" of |- a
picture "x" of a |^ 2
a ^ |if
a ^ |not
- |if
a * |if
a . |1
a . |if
a [ |]
a [ 1 |.. 2 ]
a ( |]
only |a
only ( |a
only ( zero ) |]
only ( zero , |)
make |(
make a |{
make a . |(
make a . b |. c
make a ( b |)
make a ( b : |)
make a ( b : c , |)
make a ( |1
[ 1 , |]
[ 1 .. 2 |, 3 ]
[ 1 .. |]
[ 1 , 2 |.. 3 ]
[ |..
( |)
( 1 |, 2 )
( a |]
a |= b
a |: b
a |-> b
""".strip().split("\n")


class Faults(unittest.TestCase):
    def refused(self, before, after):
        place = len(before)
        while after[:1] in (" ", ";"):
            after = after[1:]
            before += " "
            place += 1
        self.assertEqual(answer(before + after), [-2, 2, place], before + after)

    def test_rule_2(self):
        for rows, start in ((RULE_2, ""), (IN_FN, "module a fn f ( ) { "), (VALUES, "module a let k = ")):
            for row in rows:
                before, after = row.split("|")
                self.refused(start + before, after)
        for word in ("catch", "finally", "else", "then", "is", "use", "fn", "1", "AB", '"x"', "true", "("):
            self.refused("module a fn f ( ) { ", word)
        for word in ("giving", "then", "of", "as", "near", "leave", "{", "}", "*", "^", ".."):
            self.refused("module a let k = ", word)

    def test_rule_3(self):
        program = ("module a use b let k : list of fn ( a . b , whole ) -> packed 5 = if a then not b else - c as whole 5 "
                   "near record r { x : whole , y : fibre of t } account c AB fn f [ t ] ( x : t ) -> t { a [ 1 ] . b = "
                   "f ( 1 , 2 ) g ( [ 1 .. 2 ] ) match x { is whole y { leave } else { try { } catch e { } } } with trap "
                   "zero , flush in { post a : b from c } yield a into b return make a . r ( x : only ( zero ) ) }")
        ends = [0]
        for _, _, _, end in split_text(program):
            found = answer(program[:end])
            self.assertIn(found[:2], ([0, found[1]], [-2, 3]))
            if found[0] == 0:
                ends.append(end)
            else:
                self.assertEqual(found, [-2, 3, end])
                self.assertEqual(answer(program[:end] + " \n;#x"), [-2, 3, end + 5])
        # It's one behind the module's name, the use, and each declaration; also where a let's value could go on.
        whole = [program[:end].split()[-1] for end in ends[1:]]
        self.assertEqual(whole, ["a", "b", "c", "whole", "5", "near", "}", "AB", "}"])

    def test_first_from_the_left(self):
        self.assertEqual(answer("module a b !"), [-2, 2, 9])
        self.assertEqual(answer("module a ! b"), [-2, 1, 9])
        self.assertEqual(answer("module a let k = 01 )"), [-2, 1, 17])
        self.assertEqual(answer("module a let k = ) 01"), [-2, 2, 17])
        self.assertEqual(answer("module a let ! k 01"), [-2, 1, 13])
        # A token is judged as one first.
        self.assertEqual(answer("module 01"), [-2, 1, 7])
        self.assertEqual(answer("module 1"), [-2, 2, 7])
        self.assertEqual(answer("module \"a\\q\""), [-2, 1, 9])
        self.assertEqual(answer("module \"a"), [-2, 3, 9])
        self.assertEqual(answer("module \"a\""), [-2, 2, 7])
        self.assertEqual(answer("x \"a"), [-2, 2, 0])
        # A comment stands before the token behind it.
        self.assertEqual(answer(""), [-2, 3, 0])
        text = as_bytes("module a #") + [9] + as_bytes("\n1")
        self.assertEqual(answer(bytes(text).decode()), [-2, 1, 10])
        self.assertEqual(answer("module a 1 #\t"), [-2, 2, 9])
        self.assertEqual(answer("module #\t"), [-2, 1, 8])

    def test_goes_on(self):
        self.assertEqual(laid_body("a = b c = d"), ["a = b", "c = d"])
        self.assertEqual(laid_body("a = b\n(c)"), ["a = b(c)"])
        self.assertEqual(laid_body("f()\n[1] = 2"), ["f()[1] = 2"])
        self.assertEqual(laid_body("a = b as c\nd = 1"), ["a = b as c", "d = 1"])
        self.assertEqual(laid_body("a = b as c\n.d e = 1"), ["a = b as c.d", "e = 1"])
        self.assertEqual(laid_body("return a if b {}"), ["return a", "if b {}"])
        self.assertEqual(laid_body("say a flags = b"), ["say a", "flags = b"])
        self.assertEqual(laid_body("let a : fibre of fibre = b"), ["let a: fibre of fibre = b"])
        self.assertEqual(laid("module a let b = c as flags fn f(){}"), "module a\n\nlet b = c as flags\n\nfn f() {}\n")

    def test_random_rows(self):
        rng = random.Random(2026)
        recognizer = Recognizer()
        words = KEYWORDS + SIGNS * 3 + ["a", "b"] * 8 + ["AB", "1", "2.5", '"x"'] * 3
        told = {}
        for turn in range(2500):
            if turn % 2:
                row = random_tokens(rng, 30)
            else:
                row = "module a fn f ( ) {".split() + random_tokens(rng, 30, "statement") + ["}"]
            for _ in range(rng.choice([0, 1, 1, 2])):
                at = rng.randrange(len(row) + 1)
                row[at:at + rng.choice([0, 1, 1])] = rng.choice([[], [rng.choice(words)], [rng.choice(row)]])
            if rng.random() < 0.2:
                row = row[:rng.randrange(len(row) + 1)]
            text = join_tokens(rng, row, rng.choice([0, 0.05])) if row else ""
            parts = [part for part in split_text(text) if part[0] != "#"]
            kinds = [part[0] for part in parts]
            at = recognizer.fault(kinds)
            if deepness(kinds) > 100:
                expected = [-6]
            elif at is None:
                expected = [0]
            else:
                expected = [-2, 3, len(text)] if at == len(kinds) else [-2, 2, parts[at][2]]
            found = answer(text)
            self.assertEqual(found if found[0] else [0], expected, text)
            told[tuple(expected[:2])] = told.get(tuple(expected[:2]), 0) + 1
        self.assertGreater(min(told.get(key, 0) for key in ((0,), (-2, 2), (-2, 3))), 100, told)


if __name__ == "__main__":
    unittest.main()
