"""A program's layout: its parts, and what stands between them."""

from laidout.choosing import choose_lines

APART = ("fn", "record")


def apart_declarations(program):
    """Give back for each token whether it begins a declaration before which an empty line always stands."""
    apart = [False] * len(program.tokens)
    before = None
    for at in program.reader.declarations:
        kind = program.tokens[at][0]
        apart[at] = before is None or kind in APART or before in APART
        before = kind
    return apart


class Drawer:
    """What is drawn: the program, the lines chosen for it, and for each part which token comes next."""

    def __init__(self, program, lines):
        self.program = program
        self.lines = lines
        self.apart = apart_declarations(program)
        self.upcoming = []
        at = 0
        for index in range(len(program.parts)):
            self.upcoming.append(at)
            at += 0 if program.is_comment(index) else 1

    def begins_line(self, index):
        """Tell whether a line begins with this part."""
        if self.program.is_comment(index):
            return self.program.is_by_itself(index)
        return self.lines[self.upcoming[index]] is not None

    def has_empty_line(self, index):
        """Tell whether an empty line stands before this part, with which a line begins."""
        program = self.program
        at = self.upcoming[index]
        if at < len(program.tokens):
            if program.reader.told[at] != "line":
                return False
            # Behind a comment by itself it's no longer the first line's end behind the last token.
            if self.apart[at] and not program.is_by_itself(index - 1):
                return True
        if program.parts[index - 1][0] == "{" or program.parts[index][0] == "}":
            return False
        return program.gap_breaks(index) >= 2

    def blanks(self, index):
        """Give back how many blanks stand before this part, with which a line begins."""
        at = self.upcoming[index]
        if at == len(self.lines):
            return 0
        line = self.lines[at]
        return line.comment_indent if self.program.is_comment(index) else line.indent

    def gap(self, index):
        """Give back the bytes before this part."""
        if index == 0:
            return []
        if self.begins_line(index):
            return [10] * (2 if self.has_empty_line(index) else 1) + [32] * self.blanks(index)
        if self.program.is_comment(index):
            return [32]
        return [32] * (1 if self.program.reader.told[self.upcoming[index]] in ("one", "may-one") else 0)


def draw_gaps(width, program):
    """Give back the layout's gaps: the one before each part, and the one behind the last."""
    drawer = Drawer(program, choose_lines(width, program))
    return [drawer.gap(index) for index in range(len(program.parts))] + [[10]]


def draw(program, gaps):
    """Give back the layout's bytes."""
    layout = []
    for index, element in enumerate(program.element_bytes()):
        layout.extend(gaps[index])
        layout.extend(element)
    return layout + gaps[-1]
