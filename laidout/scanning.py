"""Tokens and comments of a text, from the left, up to the first fault of tokens."""

NAME = "NAME"
CODE = "CODE"
NUMBER = "NUMBER"
TEXT = "TEXT"
COMMENT = "#"

BLANKS = (10, 32, 59)

KEYWORDS = (
    "account", "and", "as", "away", "both", "break", "catch", "clear", "cut", "decimal", "double", "down", "else",
    "error", "extended", "false", "fibre", "finally", "five", "flags", "flush", "fn", "for", "fraction", "from",
    "giving", "half", "if", "in", "inexact", "interval", "into", "invalid", "is", "leave", "let", "list", "make",
    "match", "module", "near", "nearaway", "nearcut", "next", "not", "of", "only", "or", "out", "overflow", "packed",
    "picture", "post", "precision", "raise", "record", "resume", "return", "rounding", "say", "single", "small",
    "spawn", "stack", "text", "then", "to", "trap", "true", "truth", "try", "underflow", "up", "use", "value",
    "while", "whole", "with", "yield", "zero",
)

# The remainder's sign may not stand in a text of this package, so its kind is a word.
SIGNS = {
    (40,): "(", (41,): ")", (91,): "[", (93,): "]", (123,): "{", (125,): "}", (44,): ",", (58,): ":",
    (46,): ".", (46, 46): "..", (45, 62): "->", (61,): "=", (61, 61): "==", (33, 61): "!=",
    (60,): "<", (60, 61): "<=", (62,): ">", (62, 61): ">=",
    (43,): "+", (45,): "-", (42,): "*", (47,): "/", (47, 47): "//", (37,): "PERCENT", (94,): "^",
}

OPENING = ("(", "[", "{")
CLOSING = (")", "]", "}")

LETTERS = "abcdefghijklmnopqrstuvwxyz"

# m x d s h i; p has rules of its own.
PLAIN_MARKS = (109, 120, 100, 115, 104, 105)
PACKED_MARK = 112


def byte_class(byte):
    """Give back "a" for a small letter, "A" for a capital one, "0" for a digit, "_" for itself, else "?"."""
    if 97 <= byte <= 122:
        return "a"
    if 65 <= byte <= 90:
        return "A"
    if 48 <= byte <= 57:
        return "0"
    return "_" if byte == 95 else "?"


def run_end(text, at, classes):
    """Give back where the bytes of these classes that stand from at on end."""
    while at < len(text) and byte_class(text[at]) in classes:
        at += 1
    return at


def byte_at(text, at):
    """Give back the byte at this place, or -1 behind the text's end."""
    return text[at] if at < len(text) else -1


def digit_at(text, at):
    """Tell whether a digit stands at this place."""
    return at < len(text) and byte_class(text[at]) == "0"


def right(kind, end):
    """Give back what a reader of one part answers of a right one."""
    return kind, end, None


def wrong(rule, place):
    """Give back what a reader of one part answers of a fault."""
    return "", place, (rule, place)


def read_comment(text, at):
    """Read a comment; the blanks at its end are none of it."""
    end = at
    while end < len(text) and text[end] != 10:
        if not 32 <= text[end] <= 126:
            return wrong(1, end)
        end += 1
    while text[end - 1] == 32:
        end -= 1
    return right(COMMENT, end)


def read_word(text, at):
    """Read a keyword or a name."""
    end = run_end(text, at, "a0_")
    if run_end(text, at, "a") == end:
        word = "".join([LETTERS[byte - 97] for byte in text[at:end]])
        if word in KEYWORDS:
            return right(word, end)
    return right(NAME, end) if end - at <= 31 else wrong(1, at)


def read_code(text, at):
    """Read a code."""
    end = run_end(text, at, "A0")
    return right(CODE, end) if 2 <= end - at <= 8 else wrong(1, at)


def exponent_digits(text, at):
    """Give back where the digits of the exponent that stands at this place begin, or at itself if none does."""
    if byte_at(text, at) != 101:
        return at
    if digit_at(text, at + 1):
        return at + 1
    if byte_at(text, at + 1) == 45 and digit_at(text, at + 2):
        return at + 2
    return at


def right_exponent(digits, negative):
    """Tell whether these bytes may be an exponent's digits."""
    if digits == [48]:
        return not negative
    return len(digits) <= 5 and digits[0] != 48


def right_number(first, pointed, exponent, negative, mark):
    """Tell whether a number of these first digits, with a point or not, of this exponent and mark is right."""
    if mark == [PACKED_MARK]:
        return not pointed and not exponent and len(first) <= 31
    if mark and (len(mark) > 1 or mark[0] not in PLAIN_MARKS):
        return False
    if first[0] == 48 and len(first) > 1:
        return False
    if exponent:
        return len(mark) == 1 and right_exponent(exponent, negative)
    return True


def read_number(text, at):
    """Read a number with its mark."""
    whole = run_end(text, at, "0")
    broken = whole
    if byte_at(text, whole) == 46 and digit_at(text, whole + 1):
        broken = run_end(text, whole + 1, "0")
    digits = exponent_digits(text, broken)
    raised = run_end(text, digits, "0")
    end = run_end(text, raised, "aA0_")
    fit = right_number(text[at:whole], broken > whole, text[digits:raised], digits == broken + 2, text[raised:end])
    return right(NUMBER, end) if fit and end - at <= 255 else wrong(1, at)


def item_end(text, at):
    """Give back where the item of a text that begins at this place ends, or at itself if none does."""
    if text[at] == 92:
        return at + 2 if byte_at(text, at + 1) in (34, 92, 110) else at
    return at + 1 if 32 <= text[at] <= 126 else at


def read_text(text, at):
    """Read a text between its two quotes."""
    place = at + 1
    count = 0
    while place < len(text) and text[place] != 34:
        if count == 1024:
            return wrong(1, place)
        if text[place] == 92 and place + 1 == len(text):
            return wrong(3, len(text))
        after = item_end(text, place)
        if after == place:
            return wrong(1, place)
        place = after
        count += 1
    return right(TEXT, place + 1) if place < len(text) else wrong(3, len(text))


def read_sign(text, at):
    """Read the longest sign that begins here."""
    for size in (2, 1):
        kind = SIGNS.get(tuple(text[at:at + size]))
        if kind is not None and at + size <= len(text):
            return right(kind, at + size)
    return wrong(1, at)


def read_part(text, at):
    """Read the token or comment that begins here: its kind, where it ends, its fault or None."""
    found = byte_class(text[at])
    if text[at] == 35:
        return read_comment(text, at)
    if found == "a":
        return read_word(text, at)
    if found == "A":
        return read_code(text, at)
    if found == "0":
        return read_number(text, at)
    if text[at] == 34:
        return read_text(text, at)
    return read_sign(text, at)


def scan(text):
    """Give back the tokens and comments, each (kind, begin, end), and the first fault, (rule, place) or None."""
    parts = []
    at = 0
    while at < len(text):
        if text[at] in BLANKS:
            at += 1
            continue
        kind, end, fault = read_part(text, at)
        if fault is not None:
            return parts, fault
        parts.append((kind, at, end))
        at = end
    return parts, None
