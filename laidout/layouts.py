"""The calls."""

from laidout.drawing import draw
from laidout.programs import read_program

NARROWEST = 20
WIDEST = 255


def refused_or_laid(width, text):
    """Give back a refusal's numbers, or none of them, and the layout."""
    if not NARROWEST <= width <= WIDEST:
        return [-1], []
    program = read_program(text)
    if program.refused:
        return program.refused, []
    return [], draw(width, program)


def format_text(width, text):
    """Answer the text's layout by this width: how many bytes, and these."""
    refused, layout = refused_or_laid(width, text)
    if refused:
        return refused
    return [0, len(layout)] + layout


def is_laid(width, text):
    """Answer whether the text is its own layout by this width: 1 or 0."""
    refused, layout = refused_or_laid(width, text)
    if refused:
        return refused
    return [0, 1 if layout == text else 0]
