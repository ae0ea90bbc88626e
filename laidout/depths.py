"""How deep the tokens of a text go."""

from laidout.scanning import CLOSING, OPENING

DEEPER = (
    "-", "+", "*", "/", "//", "PERCENT", "^", "==", "!=", "<", "<=", ">", ">=", "->", ".",
    "not", "or", "and", "as", "of", "then", "spawn", "resume", "giving", "picture",
)
ANEW = (
    ",", "=", ":", "let", "fn", "record", "account", "use", "return", "raise", "say", "yield", "post", "from",
    "match", "is", "while", "for", "in", "to", "with", "try", "catch",
)


def count_token(numbers, kind):
    """Change the numbers, of which the last one is the document's first, as a token of this kind asks."""
    if kind in OPENING:
        numbers.append(0)
        return
    if kind in CLOSING:
        numbers.pop()
        if not numbers:
            numbers.append(0)
    if kind == "}" or kind in ANEW:
        numbers[-1] = 0
    elif kind in CLOSING or kind in DEEPER:
        numbers[-1] += 1


def depth_within(kinds, limit):
    """Tell whether the depth of tokens of these kinds is at most limit."""
    numbers = [0]
    for kind in kinds:
        count_token(numbers, kind)
        if sum(numbers) + len(numbers) - 1 > limit:
            return False
    return True
