"""A text taken for a program: its refusal, or all that its layout needs to know of it."""

from laidout.depths import depth_within
from laidout.reading import Reader
from laidout.scanning import COMMENT, scan

LONGEST = 4096
DEEPEST = 100


class Comment:
    """A comment: how many bytes it has, and whether it's behind the element before it."""

    def __init__(self, size, behind):
        self.size = size
        self.behind = behind


class Program:
    """A text's parts (tokens and comments), and what was read of its tokens; refused has numbers if it's refused."""

    def __init__(self, text):
        self.text = text
        self.refused = []
        self.parts = []
        # Each token's bytes, and what stands in the gap before each (at the end: behind the last one).
        self.tokens = []
        self.comments = []
        self.reader = None

    def is_comment(self, index):
        """Tell whether this part is a comment."""
        return self.parts[index][0] == COMMENT

    def is_by_itself(self, index):
        """Tell whether this part is a comment that's by itself, not behind the part before it."""
        return self.is_comment(index) and (index == 0 or self.gap_breaks(index) > 0)

    def gap_begin(self, index):
        """Give back where the gap before this part (at the end: behind the last one) begins in the text."""
        return self.parts[index - 1][2] if index > 0 else 0

    def gap_bytes(self, index):
        """Give back the bytes of the gap before this part (at the end: behind the last one) in the text."""
        end = self.parts[index][1] if index < len(self.parts) else len(self.text)
        return self.text[self.gap_begin(index):end]

    def gap_breaks(self, index):
        """Give back how many line's ends stand in the text in the gap before this part."""
        return self.gap_bytes(index).count(10)

    def element_bytes(self):
        """Give back the bytes of each token and comment."""
        return [self.text[part[1]:part[2]] for part in self.parts]

    def token_kinds(self):
        """Give back the tokens' kinds."""
        return [token[0] for token in self.tokens]


def split_parts(program):
    """Tell the program's tokens from the comments in the gaps before them."""
    comments = []
    for index, part in enumerate(program.parts):
        if program.is_comment(index):
            comments.append(Comment(part[2] - part[1], not program.is_by_itself(index)))
        else:
            program.tokens.append(part)
            program.comments.append(comments)
            comments = []
    program.comments.append(comments)


def fault_of(program, fault):
    """Give back the first fault of a text, of whose tokens the first fault is handed in, or None."""
    if program.reader.read():
        return fault
    at = len(program.reader.told)
    if at < len(program.tokens):
        return 2, program.tokens[at][1]
    return (3, len(program.text)) if fault is None else fault


def read_program(text):
    """Read a text; what is given back is refused or a program."""
    program = Program(text)
    if len(text) > LONGEST:
        program.refused = [-1]
        return program
    parts, fault = scan(text)
    program.parts = parts
    split_parts(program)
    if not depth_within(program.token_kinds(), DEEPEST):
        program.refused = [-6]
        return program
    program.reader = Reader(program.token_kinds(), [len(comments) > 0 for comments in program.comments])
    found = fault_of(program, fault)
    if found is not None:
        program.refused = [-2, found[0], found[1]]
    return program
