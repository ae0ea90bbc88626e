"""What the tests share: a second reading of the document, written apart from the package.

It has the document's forms as it tells them (for random programs, and for the first token that no program has), a
reader that goes down the forms, and a layout that's found by trying all choices.
"""
import random
import re
import sys

from laidout.layouts import cost, edits, folds, format_text, is_laid, outline, place, same

sys.setrecursionlimit(20000)

KEYWORDS = """account and as away both break catch clear cut decimal double down else error extended false fibre
finally five flags flush fn for fraction from giving half if in inexact interval into invalid is leave let list make
match module near nearaway nearcut next not of only or out overflow packed picture post precision raise record resume
return rounding say single small spawn stack text then to trap true truth try underflow up use value while whole with
yield zero""".split()

SIGNS = "( ) [ ] { } , : . .. -> = == != < <= > >= + - * / // % ^".split()

# The document's forms; a chain is told in two: placed (it doesn't end with a call) and called (it does).
FORMS_TEXT = r'''
program  = "module" name { "use" name } { decl }
decl     = "let" name [ ":" sort ] "=" expr
         | "record" name "{" [ name ":" sort { "," name ":" sort } ] "}"
         | "account" name code
         | "fn" name [ "[" name { "," name } "]" ] "(" [ name ":" sort { "," name ":" sort } ] ")" [ "->" sort ] block
sort     = "whole" | "fraction" | "decimal" | "half" | "single" | "double" | "extended" | "interval" | "truth" | "text" | "flags"
         | "error" | "account" | "value" | "packed" number | "list" "of" sort | "fibre" [ "of" sort ]
         | "fn" "(" [ sort { "," sort } ] ")" [ "->" sort ] | name [ "." name ]
block    = "{" { statement } "}"
statement = "let" name [ ":" sort ] "=" expr
         | placed "=" expr
         | called
         | "flags" "=" expr
         | "if" expr block { "else" "if" expr block } [ "else" block ]
         | "while" expr block
         | "for" name "in" expr [ "to" expr ] block
         | "match" expr "{" { "is" sort name block } [ "else" block ] "}"
         | "return" expr | "leave" | "break" | "next"
         | "with" mode { "," mode } block
         | "try" block ( "catch" name block [ "finally" block ] | "finally" block )
         | "raise" expr | "say" expr { "," expr } | "yield" expr [ "into" name ]
         | "post" expr ":" expr "from" expr [ text ]
mode     = "rounding" ( "near" | "down" | "up" | "cut" ) | "precision" number | "trap" flag { flag } | "flush" ( "in" | "out" | "both" )
flag     = "invalid" | "small" | "zero" | "overflow" | "underflow" | "inexact" | "stack"
placed   = name | chain "[" expr "]" | chain "." name
called   = chain "(" [ expr { "," expr } ] ")"
chain    = name { "(" [ expr { "," expr } ] ")" | "[" expr "]" | "." name }
expr     = "if" expr "then" expr "else" expr | either
either   = both { "or" both }
both     = negated { "and" negated }
negated  = "not" negated | test
test     = cast [ ( "==" | "!=" | "<" | "<=" | ">" | ">=" ) cast ]
cast     = sum { "as" sort [ number ] [ "near" | "down" | "up" | "cut" | "nearaway" | "nearcut" | "away" | "five" ] }
sum      = product { ( "+" | "-" ) product }
product  = signed { ( "*" | "/" | "//" | "%" ) signed }
signed   = "-" signed | "spawn" post | "resume" post [ "giving" signed ] | "picture" text "of" post | power
power    = post [ "^" signed ]
post     = first { "(" [ expr { "," expr } ] ")" | "[" expr "]" | "." name }
first    = number | text | "true" | "false" | "flags" | name | code | "only" "(" [ flag { "," flag } ] ")" | "(" expr ")"
         | "[" [ expr ( ".." expr | { "," expr } ) ] "]" | "make" name [ "." name ] "(" [ name ":" expr { "," name ":" expr } ] ")"
'''

ROUNDINGS = "near down up cut nearaway nearcut away five".split()
SORTS = "whole fraction decimal half single double extended interval truth text flags error account value".split()


def as_bytes(words):
    """A list of bytes from a text of Python's."""
    return list(words.encode("ascii"))


def as_words(numbers):
    """A text of Python's from bytes."""
    return bytes(numbers).decode("ascii")


# Forms, as trees: ("lit", kind), ("ref", form), ("seq", ..), ("alt", ..), ("opt", x), ("rep", x).

def parse_forms():
    forms = {}
    for line in re.split(r"\n(?=[a-z]+ +=)", FORMS_TEXT.strip()):
        form, body = line.split("=", 1)
        pieces = re.findall(r'"[^"]+"|[a-z]+|[\[\]{}()|]', body)
        tree, at = parse_choice(pieces, 0)
        assert at == len(pieces), form
        forms[form.strip()] = tree
    return forms


def parse_choice(pieces, at):
    ways = []
    while True:
        row = []
        while at < len(pieces) and pieces[at] not in ("|", "]", "}", ")"):
            piece = pieces[at]
            if piece in ("[", "{", "("):
                inner, at = parse_choice(pieces, at + 1)
                row.append({"[": ("opt", inner), "{": ("rep", inner), "(": inner}[piece])
            elif piece[0] == '"':
                row.append(("lit", piece[1:-1]))
            elif piece in ("name", "number", "text", "code"):
                row.append(("lit", piece.upper()))
            else:
                row.append(("ref", piece))
            at += 1
        ways.append(("seq", row))
        if at < len(pieces) and pieces[at] == "|":
            at += 1
            continue
        return ("alt", ways), at


FORMS = parse_forms()


def least_sizes():
    """How many tokens each form has at least."""
    sizes = dict.fromkeys(FORMS, 1000)
    while True:
        found = {form: least_size(tree, sizes) for form, tree in FORMS.items()}
        if found == sizes:
            return sizes
        sizes = found


def least_size(tree, sizes):
    kind, body = tree
    if kind == "lit":
        return 1
    if kind == "ref":
        return sizes[body]
    if kind == "seq":
        return sum(least_size(part, sizes) for part in body)
    if kind == "alt":
        return min(least_size(part, sizes) for part in body)
    return 0


LEAST = least_sizes()

NUMBERS = ["0", "7", "1234", "12.5", "1e5m", "2.50d", "007p", "9s", "16x", "3h", "4i", "1.5e-3x", "123456789012"]
TEXTS = ['""', '"a"', '"# no; comment"', '"a\\"b\\\\c\\n"', '"some longer words here"']


class Maker:
    """Makes random programs from the forms."""

    def __init__(self, rng, room):
        self.rng = rng
        self.room = room
        self.tokens = []

    def word(self, kind):
        rng = self.rng
        if kind == "NAME":
            size = rng.choice([1, 1, 1, 2, 3, 5, 8, 12])
            word = "".join(rng.choice("abcxyz_09") for _ in range(size))
            return rng.choice("abgkxz") + word + ("q" if len(word) > 2 else "")
        if kind == "CODE":
            return rng.choice(["AB", "EUR", "USD2", "ABCDEFGH"])
        if kind == "NUMBER":
            return rng.choice(NUMBERS)
        if kind == "TEXT":
            return rng.choice(TEXTS)
        return kind

    def make(self, tree, room):
        kind, body = tree
        if kind == "lit":
            self.tokens.append(self.word(body))
        elif kind == "ref":
            self.make(FORMS[body], room)
        elif kind == "seq":
            spare = room - sum(least_size(part, LEAST) for part in body)
            for part in body:
                before = len(self.tokens)
                least = least_size(part, LEAST)
                share = spare if part is body[-1] else self.rng.randint(0, max(0, spare))
                self.make(part, least + max(0, share))
                spare -= len(self.tokens) - before - least
        elif kind == "alt":
            fit = [part for part in body if least_size(part, LEAST) <= room]
            if not fit:
                least = min(least_size(part, LEAST) for part in body)
                fit = [part for part in body if least_size(part, LEAST) == least]
            self.make(self.rng.choice(fit), room)
        elif kind == "opt":
            if least_size(body, LEAST) <= room and self.rng.random() < 0.5:
                self.make(body, room)
        elif kind == "rep":
            while least_size(body, LEAST) <= room and self.rng.random() < 0.7:
                before = len(self.tokens)
                self.make(body, self.rng.randint(least_size(body, LEAST), room))
                room -= len(self.tokens) - before


def random_tokens(rng, room, form="program"):
    """A random row of tokens of this form, of about so many tokens."""
    maker = Maker(rng, room)
    maker.make(FORMS[form], room)
    return maker.tokens


# Words that stand for tokens, and the gaps between them.

def close_together(left, right):
    """Whether these two tokens stay two without a gap."""
    return [piece for _, piece, _, _ in split_text(left + right)] == [left, right]


def random_gap(rng, comments, needed):
    """A random gap; comments is how likely a comment is."""
    gap = ""
    while rng.random() < comments:
        gap += rng.choice([" ", "", "\n", "\n\n", "\n \n;"])
        gap += rng.choice(["#", "# c", "# note  ", "# a longer comment; with # signs", "#one"]) + "\n"
        gap += rng.choice(["", "", " ", "\n", "\n\n"])
    if not gap:
        gap = rng.choice([" ", " ", " ", "", "", "\n", "\n\n", "\n\n\n", ";", " ;\n "])
    return " " if needed and not gap else gap


def join_tokens(rng, tokens, comments=0.0):
    """A text of these tokens with random gaps."""
    text = random_gap(rng, comments, False)
    for index, token in enumerate(tokens):
        text += token
        last = index + 1 == len(tokens)
        text += random_gap(rng, comments, not last and not close_together(token, tokens[index + 1]))
    return text


PIECE = re.compile(r"""[ \n;]*(?:(?P<comment>\#[^\n]*)|(?P<word>[a-z][a-z0-9_]*)|(?P<code>[A-Z][A-Z0-9]*)
|(?P<number>[0-9]+(?:\.[0-9]+)?(?:e-?[0-9]+)?[A-Za-z0-9_]*)|(?P<text>"(?:[^"\\]|\\.)*")
|(?P<sign>\.\.|->|==|!=|<=|>=|//|[()\[\]{},:.=<>+\-*/%^]))""", re.X)


def split_text(text):
    """The parts of a text without faults: (kind, piece, begin, end)."""
    found = []
    at = 0
    while text[at:].strip(" \n;"):
        match = PIECE.match(text, at)
        if not match:
            return []
        piece = match.group(match.lastgroup)
        if match.lastgroup == "comment":
            piece = piece.rstrip(" ")
            kind = "#"
        elif match.lastgroup == "sign" or piece in KEYWORDS:
            kind = piece
        else:
            kind = {"word": "NAME"}.get(match.lastgroup, match.lastgroup.upper())
        begin = match.start(match.lastgroup)
        found.append((kind, piece, begin, begin + len(piece)))
        at = begin + len(piece)
    return found


# The first token that no program has, from the forms alone.

class Recognizer:
    """Finds the first token that no program has behind the tokens before it (after Earley)."""

    def __init__(self):
        self.rules = {}
        self.fresh = 0
        for form, tree in FORMS.items():
            self.rules[form] = [self.flatten(way) for way in tree[1]]
        self.empty = set()
        while True:
            found = {form for form, rows in self.rules.items()
                     if any(all(item[0] == "ref" and item[1] in self.empty for item in row) for row in rows)}
            if found == self.empty:
                break
            self.empty = found

    def name_rows(self, rows):
        self.fresh += 1
        form = "#%d" % self.fresh
        self.rules[form] = rows
        return form

    def flatten(self, tree):
        """A row of items for a sequence; inner choices become forms of their own."""
        row = []
        for part in tree[1]:
            if part[0] in ("lit", "ref"):
                row.append(part)
            elif part[0] == "alt":
                row.append(("ref", self.name_rows([self.flatten(way) for way in part[1]])))
            elif part[0] == "opt":
                row.append(("ref", self.name_rows([self.flatten(way) for way in part[1][1]] + [[]])))
            else:
                form = self.name_rows([])
                self.rules[form] = [[]] + [self.flatten(way) + [("ref", form)] for way in part[1][1]]
                row.append(("ref", form))
        return row

    def fault(self, kinds):
        """The first faulty token's index, len(kinds) if the text ends too early, or None of a program."""
        sets = [self.close({("program", index, 0, 0) for index in range(len(self.rules["program"]))}, [])]
        for at, kind in enumerate(kinds):
            kernel = set()
            for form, row, dot, origin in sets[-1]:
                items = self.rules[form][row]
                if dot < len(items) and items[dot] == ("lit", kind):
                    kernel.add((form, row, dot + 1, origin))
            if not kernel:
                return at
            sets.append(self.close(kernel, sets))
        for form, row, dot, origin in sets[-1]:
            if form == "program" and origin == 0 and dot == len(self.rules[form][row]):
                return None
        return len(kinds)

    def close(self, kernel, sets):
        here = len(sets)
        found = set(kernel)
        todo = list(kernel)
        while todo:
            form, row, dot, origin = todo.pop()
            items = self.rules[form][row]
            new = []
            if dot == len(items):
                for other in (found if origin == here else sets[origin]):
                    rest = self.rules[other[0]][other[1]]
                    if other[2] < len(rest) and rest[other[2]] == ("ref", form):
                        new.append((other[0], other[1], other[2] + 1, other[3]))
            elif items[dot][0] == "ref":
                wanted = items[dot][1]
                new.extend((wanted, index, 0, here) for index in range(len(self.rules[wanted])))
                if wanted in self.empty:
                    new.append((form, row, dot + 1, origin))
            for item in new:
                if item not in found:
                    found.add(item)
                    todo.append(item)
        return found


# A reader that goes down the forms, and lays out by trying all choices.

class Group:
    def __init__(self, first, last, closing):
        self.first = first
        self.last = last
        self.closing = closing
        self.end = last if closing is None else closing


class Reference:
    """A program read by going down the forms; text has no fault."""

    def __init__(self, text):
        self.text = text
        self.parts = split_text(text)
        self.tokens = [part for part in self.parts if part[0] != "#"]
        self.kinds = [part[0] for part in self.tokens] + ["END"]
        self.at = 0
        self.told = []
        self.depths = []
        self.depth = 0
        self.groups = []
        self.declarations = []
        self.within = self.comments_by_gap()
        self.program()
        assert self.at == len(self.tokens)
        self.groups.sort(key=lambda group: (group.first, -group.end))

    def comments_by_gap(self):
        gaps = [[]]
        for index, part in enumerate(self.parts):
            if part[0] == "#":
                behind = index > 0 and "\n" not in self.text[self.parts[index - 1][3]:part[2]]
                gaps[-1].append((part[1], behind))
            else:
                gaps.append([])
        return gaps

    @property
    def kind(self):
        return self.kinds[self.at]

    def take(self, told, *kinds):
        assert not kinds or self.kind in kinds, (self.kind, kinds, self.tokens[self.at:])
        self.told.append(told)
        self.depths.append(self.depth)
        self.at += 1

    def program(self):
        self.take("line", "module")
        self.take("one", "NAME")
        while self.kind == "use":
            self.take("line")
            self.take("one", "NAME")
        while self.kind != "END":
            self.declarations.append(self.at)
            {"let": self.let, "record": self.record, "account": self.account, "fn": self.fn}[self.kind]()

    def let(self):
        self.take("line", "let")
        self.take("one", "NAME")
        if self.kind == ":":
            self.take("none")
            self.sort("one")
        self.take("one", "=")
        self.expr("one")

    def account(self):
        self.take("line", "account")
        self.take("one", "NAME")
        self.take("one", "CODE")

    def listing(self, part, closing):
        """What stands in brackets as a group; the opening one is taken."""
        if self.kind == closing:
            self.take("none")
            return
        first = self.at
        part("may-none")
        while self.kind == ",":
            self.take("none")
            part("may-one")
        self.groups.append(Group(first, self.at - 1, self.at))
        self.take("may-none", closing)

    def plain_listing(self, part, closing):
        """What stands in brackets and is no group; the opening one is taken."""
        if self.kind != closing:
            part("none")
            while self.kind == ",":
                self.take("none")
                part("one")
        self.take("none", closing)

    def field(self, told):
        self.take(told, "NAME")
        self.take("none", ":")
        self.sort("one")

    def named(self, told):
        self.take(told, "NAME")
        self.take("none", ":")
        self.expr("one")

    def record(self):
        self.take("line", "record")
        self.take("one", "NAME")
        self.take("one", "{")
        self.listing(self.field, "}")

    def name(self, told):
        self.take(told, "NAME")

    def fn(self):
        self.take("line", "fn")
        self.take("one", "NAME")
        if self.kind == "[":
            self.take("none")
            self.plain_listing(self.name, "]")
        self.take("none", "(")
        self.listing(self.field, ")")
        if self.kind == "->":
            self.take("one")
            self.sort("one")
        self.block()

    def sort(self, told):
        kind = self.kind
        self.take(told, "NAME", "packed", "list", "fibre", "fn", *SORTS)
        if kind == "packed":
            self.take("one", "NUMBER")
        elif kind == "list" or kind == "fibre" and self.kind == "of":
            self.take("one", "of")
            self.sort("one")
        elif kind == "fn":
            self.take("none", "(")
            self.plain_listing(self.sort, ")")
            if self.kind == "->":
                self.take("one")
                self.sort("one")
        elif kind == "NAME" and self.kind == ".":
            self.take("none")
            self.take("none", "NAME")

    def braces(self, inner):
        self.take("one", "{")
        self.depth += 1
        begin = self.at
        while self.kind != "}":
            inner()
        self.depth -= 1
        self.take("none" if begin == self.at and not self.within[self.at] else "line", "}")

    def block(self):
        self.braces(self.statement)

    def case(self):
        if self.kind == "is":
            self.take("line")
            self.sort("one")
            self.take("one", "NAME")
        else:
            self.take("line", "else")
        self.block()

    def statement(self):
        kind = self.kind
        if kind == "let":
            self.let()
            return
        self.take("line")
        if kind == "NAME":
            self.tails()
            if self.kind == "=":
                self.take("one")
                self.expr("one")
        elif kind == "flags":
            self.take("one", "=")
            self.expr("one")
        elif kind in ("if", "while"):
            self.expr("one")
            self.block()
            while kind == "if" and self.kind == "else":
                self.take("one")
                if self.kind == "if":
                    self.take("one")
                    self.expr("one")
                self.block()
        elif kind == "for":
            self.take("one", "NAME")
            self.take("one", "in")
            self.expr("one")
            if self.kind == "to":
                self.take("one")
                self.expr("one")
            self.block()
        elif kind == "match":
            self.expr("one")
            self.braces(self.case)
        elif kind in ("return", "raise"):
            self.expr("one")
        elif kind == "with":
            self.mode()
            while self.kind == ",":
                self.take("none")
                self.mode()
            self.block()
        elif kind == "try":
            self.block()
            if self.kind == "catch":
                self.take("one")
                self.take("one", "NAME")
                self.block()
            if self.kind == "finally":
                self.take("one")
                self.block()
        elif kind == "say":
            first = self.at
            self.expr("one")
            more = self.kind == ","
            while self.kind == ",":
                self.take("none")
                self.expr("may-one")
            if more:
                self.groups.append(Group(first, self.at - 1, None))
        elif kind == "yield":
            self.expr("one")
            if self.kind == "into":
                self.take("one")
                self.take("one", "NAME")
        elif kind == "post":
            self.expr("one")
            self.take("none", ":")
            self.expr("one")
            self.take("one", "from")
            self.expr("one")
            if self.kind == "TEXT":
                self.take("one")

    def mode(self):
        trap = self.kind == "trap"
        self.take("one")
        self.take("one")
        while trap and self.kind not in (",", "{"):
            self.take("one")

    def row(self, part, signs, told):
        first = self.at
        part(told)
        rows = 1
        while self.kind in signs:
            self.take("may-one")
            part("one")
            rows += 1
        if rows > 1:
            self.groups.append(Group(first, self.at - 1, None))

    def expr(self, told):
        if self.kind != "if":
            self.row(self.both, ("or",), told)
            return
        first = self.at
        self.take(told)
        self.expr("one")
        self.take("may-one", "then")
        self.expr("one")
        self.take("may-one", "else")
        self.expr("one")
        self.groups.append(Group(first, self.at - 1, None))

    def both(self, told):
        self.row(self.negated, ("and",), told)

    def negated(self, told):
        if self.kind == "not":
            self.take(told)
            self.negated("one")
        else:
            self.row(self.cast, ("==", "!=", "<", "<=", ">", ">="), told)

    def cast(self, told):
        self.row(self.product, ("+", "-"), told)
        while self.kind == "as":
            self.take("one")
            self.sort("one")
            if self.kind == "NUMBER":
                self.take("one")
            if self.kind in ROUNDINGS:
                self.take("one")

    def product(self, told):
        self.row(self.signed, ("*", "/", "//", "%"), told)

    def signed(self, told):
        kind = self.kind
        if kind == "-":
            self.take(told)
            self.signed("none")
        elif kind in ("spawn", "resume"):
            self.take(told)
            self.value("one")
            if kind == "resume" and self.kind == "giving":
                self.take("one")
                self.signed("one")
        elif kind == "picture":
            self.take(told)
            self.take("one", "TEXT")
            self.take("one", "of")
            self.value("one")
        else:
            self.value(told)
            if self.kind == "^":
                self.take("one")
                self.signed("one")

    def value(self, told):
        kind = self.kind
        self.take(told)
        if kind == "only":
            self.take("none", "(")
            self.plain_listing(self.take, ")")
        elif kind == "(":
            self.expr("none")
            self.take("none", ")")
        elif kind == "[":
            self.bracketed()
        elif kind == "make":
            self.take("one", "NAME")
            if self.kind == ".":
                self.take("none")
                self.take("none", "NAME")
            self.take("none", "(")
            self.listing(self.named, ")")
        self.tails()

    def bracketed(self):
        at = self.at
        level = 0
        ranged = False
        while level >= 0:
            kind = self.kinds[at]
            ranged = ranged or (level == 0 and kind == "..")
            level += (kind in ("(", "[")) - (kind in (")", "]"))
            at += 1
        if not ranged:
            self.listing(self.expr, "]")
            return
        self.expr("none")
        self.take("one", "..")
        self.expr("one")
        self.take("none", "]")

    def tails(self):
        while self.kind in ("(", "[", "."):
            kind = self.kind
            self.take("none")
            if kind == "(":
                self.listing(self.expr, ")")
            elif kind == "[":
                self.expr("none")
                self.take("none", "]")
            else:
                self.take("none", "NAME")

    # Choices and layouts.

    def parent(self, index):
        """The innermost group that this one is within, or None."""
        mine = self.groups[index]
        for other in range(index - 1, -1, -1):
            if self.groups[other].first <= mine.first and mine.end <= self.groups[other].last:
                return other
        return None

    def forced(self, index):
        group = self.groups[index]
        inner = group.first + (1 if group.closing is None else 0)
        return any(self.within[at] for at in range(inner, group.end + 1))

    def choices(self):
        """All choices, the lesser ones first."""
        parents = [self.parent(index) for index in range(len(self.groups))]
        forced = [self.forced(index) for index in range(len(self.groups))]

        def go(choice):
            index = len(choice)
            if index == len(parents):
                yield list(choice)
                return
            outer = parents[index] is None or choice[parents[index]]
            if not forced[index]:
                yield from go(choice + [False])
            if outer:
                yield from go(choice + [True])
        return go([])

    def random_choice(self, rng):
        choice = []
        for index in range(len(self.groups)):
            above = self.parent(index)
            outer = above is None or choice[above]
            choice.append(self.forced(index) or (outer and rng.random() < 0.5))
        return choice

    def holding(self, at, choice):
        return sum(1 for group, broken in zip(self.groups, choice) if broken and group.first <= at <= group.last)

    def ends_line(self, at, choice):
        """Whether what's told before this token is a line's end by the choice."""
        told = self.told[at]
        if told in ("none", "one"):
            return False
        if told == "line":
            return True
        owners = []
        for group, broken in zip(self.groups, choice):
            if group.closing is not None and at in (group.first, group.closing) and told == "may-none":
                owners.append((group, broken))
            elif told == "may-one" and group.first < at <= group.last:
                owners.append((group, broken))
        if told == "may-none":
            # Its bracket is right beside it, so of those that begin here it's the outermost.
            return owners[0][1]
        return owners[-1][1]

    def lay_out(self, choice):
        """The layout by this choice."""
        lines = ""
        count = len(self.tokens)
        for at in range(count + 1):
            comments = self.within[at]
            told = self.told[at] if at < count else "line"
            indent = comment_indent = 0
            if at < count:
                indent = self.depths[at] + self.holding(at, choice)
                if comments and told in ("none", "one"):
                    indent += 1
                closing = self.kinds[at] in (")", "]", "}")
                comment_indent = indent + (1 if closing and told in ("may-none", "line") else 0)
            ended = 0
            for comment, behind in comments:
                if behind:
                    lines += " " + comment
                else:
                    lines += self.line_end(lines, at, ended, True) + "  " * comment_indent + comment
                    ended += 1
            if at == count:
                return lines + "\n"
            if comments or self.ends_line(at, choice):
                lines += self.line_end(lines, at, ended, False) + "  " * indent
            elif told in ("one", "may-one"):
                lines += " "
            lines += self.tokens[at][1]
        return lines

    def line_end(self, lines, at, ended, comment):
        """The line's end before a comment or a token, ended other ones being before it in the same gap."""
        if not lines:
            return ""
        told = self.told[at] if at < len(self.tokens) else "line"
        if told != "line":
            return "\n"
        if at in self.declarations and ended == 0:
            place = self.declarations.index(at)
            near = [self.kinds[at]] + ([self.kinds[self.declarations[place - 1]]] if place else [])
            if place == 0 or "fn" in near or "record" in near:
                return "\n\n"
        behind = sum(1 for _, behind in self.within[at] if behind)
        index = self.part_index(at) - len(self.within[at]) + behind + ended
        before = self.parts[index - 1]
        if before[0] == "{" or (not comment and self.kinds[at] == "}"):
            return "\n"
        return "\n\n" if self.text[before[3]:self.parts[index][2]].count("\n") > 1 else "\n"

    def part_index(self, at):
        if at == len(self.tokens):
            return len(self.parts)
        return self.parts.index(self.tokens[at])

    def best(self, width):
        """The layout of least cost, all choices tried."""
        return min(((cost_of(layout, width), layout) for layout in map(self.lay_out, self.choices())),
                   key=lambda pair: pair[0])[1]


def cost_of(layout, width):
    """A layout's bytes beyond the width, and its lines."""
    lines = layout.split("\n")[:-1]
    return sum(max(0, len(line) - width) for line in lines), len(lines)


def deepness(kinds):
    """The depth of tokens of these kinds, told as the document does."""
    numbers = [0]
    depth = 0
    for kind in kinds:
        if kind in "([{":
            numbers.insert(0, 0)
        elif kind in ")]":
            numbers = numbers[1:] or [0]
            numbers[0] += 1
        elif kind == "}":
            numbers = numbers[1:] or [0]
            numbers[0] = 0
        elif kind in ("- + * / // % ^ == != < <= > >= -> . not or and as of then spawn resume giving picture").split():
            numbers[0] += 1
        elif kind in (", = : let fn record account use return raise say yield post from match is while for in to "
                      "with try catch").split():
            numbers[0] = 0
        depth = max(depth, sum(numbers) + len(numbers) - 1)
    return depth


# Random programs as texts, and their gaps.

def random_texts(seed, count, comments):
    """So many random programs, as texts."""
    rng = random.Random(seed)
    found = 0
    while found < count:
        row = random_tokens(rng, rng.choice([10, 30, 60, 120, 250]))
        if rng.random() < 0.4:
            row = "module a fn f ( ) {".split() + random_tokens(rng, rng.choice([20, 80]), "statement") + ["}"]
        text = join_tokens(rng, row, rng.choice(comments))
        kinds = [part[0] for part in split_text(text) if part[0] != "#"]
        if len(text) <= 4096 and deepness(kinds) <= 100:
            found += 1
            yield rng, text


def small_texts(seed, count):
    """So many random programs of few tokens, as texts."""
    rng = random.Random(seed)
    for _ in range(count):
        row = "module a fn f ( ) {".split() + random_tokens(rng, rng.choice([4, 10, 20]), "statement") + ["}"]
        yield rng, join_tokens(rng, row, rng.choice([0, 0.05, 0.2]))


def other_gaps(rng, text):
    """The same elements with other gaps, which are alike in all that matters."""
    read = Reference(text)
    parts = read.parts
    lines = {index for index, told in enumerate(read.told) if told == "line"}
    words = ""
    at = 0
    for index, part in enumerate(parts):
        gap = text[parts[index - 1][3] if index else 0:part[2]]
        breaks = gap.count("\n")
        if part[0] == "#" or at in lines or parts[index - 1][0] == "#":
            fewest = min(breaks, 2)
            most = {0: 0, 1: 1, 2: 4}[fewest]
            if part[0] != "#" and parts[index - 1][0] != "#" and fewest < 2:
                fewest, most = 0, 1
        else:
            fewest, most = 0, 4
        if index == 0:
            fewest, most = 0, 4
        pieces = ["\n"] * rng.randint(fewest, most) + [rng.choice([" ", ";", "  "]) for _ in range(rng.randint(0, 3))]
        rng.shuffle(pieces)
        if index and parts[index - 1][0] == "#":
            # Only blanks and a line's end may follow a comment that's to stay as it is.
            pieces.sort(key=lambda piece: piece != "\n")
        filled = "".join(pieces)
        words += (filled or " ") + part[1]
        at += part[0] != "#"
    return words + "\n" + rng.choice(["", "\n", ";"])


def gaps_of(text):
    """The gaps of a text without faults, one more than elements: (where it begins, what stands in it)."""
    found = []
    at = 0
    for _, _, begin, end in split_text(text):
        found.append((at, text[at:begin]))
        at = end
    return found + [(at, text[at:])]


def edits_to(text, layout):
    """What's to be answered of a text that has this layout: 0, how many edits, and each one's numbers."""
    before, after = gaps_of(text), gaps_of(layout)
    assert len(before) == len(after)
    found = [0, 0]
    for (begin, gap), (_, new) in zip(before, after):
        if gap != new:
            found[1] += 1
            found += [begin, len(gap), len(new)] + as_bytes(new)
    return found


def split_edits(found):
    """The edits of an answer: (where it begins, how many bytes it has there, its new bytes)."""
    rows = []
    at = 2
    while at < len(found):
        begin, size, count = found[at:at + 3]
        rows.append((begin, size, found[at + 3:at + 3 + count]))
        assert len(rows[-1][2]) == count, found
        at += 3 + count
    assert found[:2] == [0, len(rows)], found
    return rows


def make_edits(numbers, rows):
    """A text's bytes with these edits made, each in its own place."""
    made = []
    at = 0
    for begin, size, new in rows:
        assert at <= begin and begin + size <= len(numbers), rows
        made += numbers[at:begin] + new
        at = begin + size
    return made + numbers[at:]


def places_between(text, other):
    """For each place in a text, its length too, where it goes in another one that has the same elements."""
    pairs = list(zip(split_text(text), split_text(other)))
    assert [before[1] for before, _ in pairs] == [after[1] for _, after in pairs]
    goes = [len(other)] * (len(text) + 1)
    for before, after in reversed(pairs):
        goes[:before[2]] = [after[2]] * before[2]
        goes[before[2]:before[3]] = list(range(after[2], after[3]))
    return goes


def outline_of(text):
    """What's to be answered of this text's declarations."""
    read = Reference(text)
    found = [0, len(read.declarations)]
    for at, after in zip(read.declarations, read.declarations[1:] + [len(read.tokens)]):
        first, name, last = read.tokens[at], read.tokens[at + 1], read.tokens[after - 1]
        found += [{"let": 128, "record": 129, "account": 130, "fn": 131}[first[0]], name[2]]
        found += [text[:first[2]].count("\n"), text[:last[2]].count("\n")]
    return found


def folds_of(text):
    """What's to be answered of this text's folds, line by line and pair by pair."""
    pairs = []
    parts = split_text(text)
    for index, part in enumerate(parts):
        after = index
        level = 0
        while part[0] in list("([{"):
            level += (parts[after][0] in list("([{")) - (parts[after][0] in list(")]}"))
            if level == 0:
                if "\n" in text[part[2]:parts[after][2]]:
                    pairs.append((part[2], parts[after][2]))
                break
            after += 1
    rows = list(pairs)
    # No token goes on over a line's end, so a line that begins with # has nothing but a comment by itself.
    begin = 0
    run = []
    for line in (text + "\n.").split("\n"):
        mark = len(line) - len(line.lstrip(" ;"))
        if line[mark:mark + 1] == "#":
            run.append(begin + mark)
        else:
            if len(run) > 1:
                rows.append((run[0], run[-1]))
            run = []
        begin += len(line) + 1
    found = [0, len(rows)]
    for begin, end in sorted(rows):
        found += [text[:begin].count("\n"), text[:end].count("\n")]
        found.append(sum(1 for outer in pairs if outer[0] < begin and end < outer[1]))
    return found


# What the tests ask of the package.

def answer(text, width=80):
    """What format_text answers of this text."""
    return format_text(width, as_bytes(text))


def place_there(width, numbers):
    """The text's first place."""
    return place(width, 0, 0, numbers)


def place_back(width, numbers):
    """The layout's first place."""
    return place(width, 0, 1, numbers)


def same_twice(width, numbers):
    """The same text twice, whatever the width."""
    return same(numbers, numbers)


def outline_alone(width, numbers):
    """The text's declarations, whatever the width."""
    return outline(numbers)


def folds_alone(width, numbers):
    """The text's folds, whatever the width."""
    return folds(numbers)


# What refuses a text by a width, and what refuses a text alone; each is handed both.
WIDTH_CALLS = (format_text, is_laid, cost, edits, place_there, place_back)
TEXT_CALLS = (same_twice, outline_alone, folds_alone)
CALLS = WIDTH_CALLS + TEXT_CALLS


def cost_answer(text, width=80):
    """What cost answers of this text."""
    return cost(width, as_bytes(text))


def edits_answer(text, width=80):
    """What edits answers of this text."""
    return edits(width, as_bytes(text))


def place_answer(text, at, back, width=80):
    """What place answers of this text."""
    return place(width, at, back, as_bytes(text))


def same_answer(text, other):
    """What same answers of these two texts."""
    return same(as_bytes(text), as_bytes(other))


def outline_answer(text):
    """What outline answers of this text."""
    return outline(as_bytes(text))


def folds_answer(text):
    """What folds answers of this text."""
    return folds(as_bytes(text))


def steps_of(call, *handed):
    """How many lines of code a call goes through."""
    steps = 0

    def step(frame, event, value):
        nonlocal steps
        steps += event == "line"
        return step

    before = sys.gettrace()
    sys.settrace(step)
    try:
        call(*handed)
    finally:
        sys.settrace(before)
    return steps


def laid(text, width=80):
    """The layout of this text, which must be a program."""
    found = answer(text, width)
    if found[0] != 0 or found[1] != len(found) - 2:
        raise AssertionError("%r: %r" % (text, found))
    return as_words(found[2:])


def laid_body(statements, width=80):
    """The layout's lines of statements in a fn, without the fn's own and its indent."""
    lines = laid("module a fn f() {" + statements + "\n}", width + 2).split("\n")
    assert lines[:3] == ["module a", "", "fn f() {"] and lines[-2:] == ["}", ""], lines
    assert all(line[:2] in ("", "  ") for line in lines[3:-2]), lines
    return [line[2:] for line in lines[3:-2]]


def laid_value(words, width=80):
    """The layout's lines of a declaration `let k = ` and these words."""
    lines = laid("module a let k = " + words, width).split("\n")
    assert lines[:2] == ["module a", ""] and lines[-1] == "", lines
    return lines[2:-1]
