"""The calls."""

from laidout.drawing import draw, draw_gaps
from laidout.measuring import changed_gaps, layout_cost
from laidout.placing import layout_spans, moved_place, text_spans
from laidout.programs import read_program
from laidout.surveying import survey_declarations, survey_folds

NARROWEST = 20
WIDEST = 255


def refused_or_laid(width, text):
    """Give back a refusal's numbers, or none of them; what was read of the text; and its layout's gaps."""
    if not NARROWEST <= width <= WIDEST:
        return [-1], None, []
    program = read_program(text)
    gaps = [] if program.refused else draw_gaps(width, program)
    return program.refused, program, gaps


def counted(rows):
    """Answer rows of numbers: how many rows, and each one's numbers."""
    answer = [0, len(rows)]
    for row in rows:
        answer.extend(row)
    return answer


def format_text(width, text):
    """Answer the text's layout by this width: how many bytes, and these."""
    refused, program, gaps = refused_or_laid(width, text)
    if refused:
        return refused
    layout = draw(program, gaps)
    return [0, len(layout)] + layout


def is_laid(width, text):
    """Answer whether the text is its own layout by this width: 1 or 0."""
    refused, program, gaps = refused_or_laid(width, text)
    if refused:
        return refused
    return [0, 0 if changed_gaps(program, gaps) else 1]


def cost(width, text):
    """Answer what the text's layout by this width costs: how many bytes beyond the width, how many lines."""
    refused, program, gaps = refused_or_laid(width, text)
    if refused:
        return refused
    beyond, lines = layout_cost(width, draw(program, gaps))
    return [0, beyond, lines]


def edits(width, text):
    """Answer what makes the text its layout by this width: how many edits, and of each the gap and its new bytes."""
    refused, program, gaps = refused_or_laid(width, text)
    if refused:
        return refused
    return counted([[begin, size, len(gap)] + gap for begin, size, gap in changed_gaps(program, gaps)])


def place(width, at, back, text):
    """Answer where a place in the text goes in its layout by this width; with back 1 one in the layout, in the text."""
    if back > 1:
        return [-1]
    refused, program, gaps = refused_or_laid(width, text)
    if refused:
        return refused
    written = text_spans(program)
    drawn = layout_spans(program, gaps)
    moved = moved_place(at, drawn, written) if back == 1 else moved_place(at, written, drawn)
    return [-4] if moved is None else [0, moved]


def same(text, other):
    """Answer whether two texts have the same elements in the same order: 1 or 0."""
    first = read_program(text)
    second = read_program(other)
    # A refusal goes before others by its number, and only then by the text that it's of.
    for number in (-1, -6, -2):
        for program in (first, second):
            if program.refused[:1] == [number]:
                return program.refused
    return [0, 1 if first.element_bytes() == second.element_bytes() else 0]


def outline(text):
    """Answer the text's declarations: of each its kind, its name's place, the lines of its first and its last token."""
    program = read_program(text)
    return program.refused if program.refused else counted(survey_declarations(program))


def folds(text):
    """Answer what may be folded: first and last line of each fold, and how many folds of brackets it lies in."""
    program = read_program(text)
    return program.refused if program.refused else counted(survey_folds(program))
