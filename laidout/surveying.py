"""What stands on which of a text's lines: its declarations, and what may be folded."""

from laidout.scanning import CLOSING, OPENING

DECLARATIONS = {"let": 128, "record": 129, "account": 130, "fn": 131}


def part_lines(program):
    """Give back on which of the text's lines each part stands."""
    lines = []
    line = 0
    for index in range(len(program.parts)):
        line += program.gap_breaks(index)
        lines.append(line)
    return lines


def survey_declarations(program):
    """Give back of each declaration its kind, its name's place, the lines of its first and of its last token."""
    lines = [line for index, line in enumerate(part_lines(program)) if not program.is_comment(index)]
    begins = program.reader.declarations
    found = []
    for begin, end in zip(begins, begins[1:] + [len(program.tokens)]):
        kind = DECLARATIONS[program.tokens[begin][0]]
        found.append((kind, program.tokens[begin + 1][1], lines[begin], lines[end - 1]))
    return found


def bracket_folds(program, lines):
    """Give back for each opening bracket whose closing one stands on a later line which part that one is."""
    folds = {}
    opened = []
    for index, part in enumerate(program.parts):
        if part[0] in OPENING:
            opened.append(index)
        elif part[0] in CLOSING:
            begin = opened.pop()
            if lines[begin] < lines[index]:
                folds[begin] = index
    return folds


def comment_folds(program, lines):
    """Give back for each comment that begins a row of two or more by themselves which part the row's last one is."""
    folds = {}
    begin = None
    for index, line in enumerate(lines):
        if not program.is_by_itself(index):
            begin = None
        elif begin is not None and line == lines[index - 1] + 1:
            folds[begin] = index
        else:
            begin = index
    return folds


def survey_folds(program):
    """Give back of each fold its first and its last line, and how many folds of brackets it lies in."""
    lines = part_lines(program)
    brackets = bracket_folds(program, lines)
    comments = comment_folds(program, lines)
    # Where the folds of brackets end that a part lies in, the innermost one's end last.
    ends = []
    found = []
    for index, line in enumerate(lines):
        if ends and ends[-1] == index:
            ends.pop()
        if index in comments:
            found.append((line, lines[comments[index]], len(ends)))
        if index in brackets:
            found.append((line, lines[brackets[index]], len(ends)))
            ends.append(brackets[index])
    return found
