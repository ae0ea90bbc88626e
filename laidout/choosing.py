"""Of all choices the one of least cost: where lines end in groups, and by how much they're indented.

Tokens are gone through from the left. Where one is come to that stands in no flat group, all groups that hold it and
began before it are broken; so nothing matters there but how many bytes the line has so far. Of the groups that begin
with the token some outer ones are broken; the next one, if there's one, is flat, and it's passed at once.
"""

from laidout.scanning import CLOSING

# A line costs 1, so a byte beyond the width must cost more than any layout has lines.
BEYOND = 100000


def groups_by_begin(groups, count):
    """Give back the groups that begin at each of so many tokens, outer ones before inner ones."""
    begun = [[] for token in range(count)]
    for group in sorted(groups, key=lambda group: -group.end):
        begun[group.begin].append(group)
    return begun


def holding_before(groups, count):
    """Give back for each of so many tokens how many groups hold it that began before it."""
    changes = [0] * (count + 1)
    for group in groups:
        changes[group.begin + 1] += 1
        changes[group.last + 1] -= 1
    held = [0]
    for change in changes[1:count]:
        held.append(held[-1] + change)
    return held


def flat_blanks(told):
    """Give back how many blanks stand before a token where no line ends."""
    return 1 if told in ("one", "may-one") else 0


class Move:
    """A way on from a token: what it costs, to which token and to how many bytes of a line it leads."""

    def __init__(self, cost, after, column, broken):
        self.cost = cost
        self.after = after
        self.column = column
        # How many of the groups that begin with the token are broken.
        self.broken = broken


class Chooser:
    """What the choice for a program by a width needs to know of each token."""

    def __init__(self, width, program):
        self.width = width
        self.told = program.reader.told
        self.comments = program.comments
        self.sizes = [token[2] - token[1] for token in program.tokens]
        self.closing = [token[0] in CLOSING for token in program.tokens]
        self.begun = groups_by_begin(program.reader.groups, len(self.told))
        held = holding_before(program.reader.groups, len(self.told))
        self.levels = [depth + held[at] + self.aside(at) for at, depth in enumerate(program.reader.depths)]
        # Where each token would end, were all tokens on one line.
        self.line_ends = []
        # How many of the gaps before each token's own have comments.
        self.commented = [0]
        for at, size in enumerate(self.sizes):
            before = self.line_ends[-1] if self.line_ends else 0
            self.line_ends.append(before + flat_blanks(self.told[at]) + size)
            self.commented.append(self.commented[-1] + (1 if self.comments[at] else 0))

    def aside(self, at):
        """Give back 1 where a token stands on a line of its own only because of a comment, else 0."""
        return 1 if self.comments[at] and self.told[at] in ("none", "one") else 0

    def token_blanks(self, at, broken):
        """Give back how many blanks stand before a token that begins a line, with so many of its groups broken."""
        return 2 * (self.levels[at] + broken)

    def comment_blanks(self, at, broken):
        """Give back how many blanks stand before a comment by itself in the gap before this token."""
        further = self.closing[at] and self.told[at] in ("may-none", "line")
        return self.token_blanks(at, broken) + (2 if further else 0)

    def breaks(self, at, broken):
        """Tell whether a token that stands in no flat group begins a line, with so many of its groups broken."""
        if self.comments[at] or self.told[at] in ("line", "may-one"):
            return True
        # Before a first token it's the outermost of its groups that tells; before a closing bracket a broken one.
        return self.told[at] == "may-none" and (broken > 0 or not self.begun[at])

    def beyond(self, column, size):
        """Give back what so many bytes more cost on a line that has so many, none of which is beyond the width."""
        return BEYOND * max(0, column + size - self.width)

    def comments_cost(self, at, column, broken):
        """Give back what the comments cost in the gap before this token."""
        cost = 0
        for comment in self.comments[at]:
            if comment.behind:
                cost += self.beyond(column, 1 + comment.size)
            else:
                cost += 1 + self.beyond(0, self.comment_blanks(at, broken) + comment.size)
        return cost

    def end_cost(self, column):
        """Give back what a comment costs that's behind the last token."""
        return sum([self.beyond(column, 1 + comment.size) for comment in self.comments[-1] if comment.behind])

    def move(self, at, column, broken, end):
        """Give back the way from before this token to behind the token at end, with all between on one line."""
        cost = self.comments_cost(at, column, broken)
        size = self.line_ends[end] - self.line_ends[at] + self.sizes[at]
        if self.breaks(at, broken):
            cost += 1
            column = 0
            size += self.token_blanks(at, broken)
        else:
            size += flat_blanks(self.told[at])
        cost += self.beyond(column, size)
        # What is beyond the width was counted: a further byte costs as much as one that's right at the width.
        return Move(cost, end + 1, min(self.width, column + size), broken)

    def ends(self, at):
        """Give back for each number of broken groups that may be at this token up to where it leads on one line."""
        ends = []
        for broken, group in enumerate(self.begun[at]):
            if self.commented[group.inner] == self.commented[group.end + 1]:
                ends.append((broken, group.end))
        ends.append((len(self.begun[at]), at))
        return ends

    def all_moves(self):
        """Give back for each token, and each column that may be before it, the ways on."""
        moves = [{} for told in self.told]
        moves.append({})
        moves[0][0] = []
        for at in range(len(self.told)):
            ends = self.ends(at)
            for column in list(moves[at]):
                ways = [self.move(at, column, broken, end) for broken, end in ends]
                moves[at][column] = ways
                for way in ways:
                    moves[way.after].setdefault(way.column, [])
        return moves

    def best_moves(self):
        """Give back for each token, and each column that may be before it, the way on that costs least."""
        moves = self.all_moves()
        count = len(self.told)
        costs = [{} for at in range(count + 1)]
        best = [{} for at in range(count)]
        for column in moves[count]:
            costs[count][column] = self.end_cost(column)
        for at in range(count - 1, -1, -1):
            for column in moves[at]:
                # Of ways that cost the same the first is kept: in it the first group that differs is flat.
                for move in moves[at][column]:
                    cost = move.cost + costs[move.after][move.column]
                    if column not in best[at] or cost < costs[at][column]:
                        costs[at][column] = cost
                        best[at][column] = move
        return best


class Line:
    """How a line begins with a token: the blanks before it, and before comments by themselves in its gap."""

    def __init__(self, indent, comment_indent):
        self.indent = indent
        self.comment_indent = comment_indent


def choose_lines(width, program):
    """Give back for each token the Line that begins with it, or None where it stands on a line with others."""
    chooser = Chooser(width, program)
    best = chooser.best_moves()
    lines = [None] * len(program.tokens)
    at = 0
    column = 0
    while at < len(program.tokens):
        move = best[at][column]
        if chooser.breaks(at, move.broken):
            lines[at] = Line(chooser.token_blanks(at, move.broken), chooser.comment_blanks(at, move.broken))
        at = move.after
        column = move.column
    return lines
