"""Places in a text and in its layout, from one to the other."""


def text_spans(program):
    """Give back where each element begins and ends in the text, and at last the text's own end twice."""
    end = len(program.text)
    return [(part[1], part[2]) for part in program.parts] + [(end, end)]


def layout_spans(program, gaps):
    """Give back where each element begins and ends in the layout, and at last the layout's own end twice."""
    spans = []
    end = 0
    for index, part in enumerate(program.parts):
        begin = end + len(gaps[index])
        end = begin + part[2] - part[1]
        spans.append((begin, end))
    end += len(gaps[-1])
    return spans + [(end, end)]


def moved_place(at, spans, others):
    """Give back where a place among these spans goes among the others, or None if it's beyond them."""
    if at > spans[-1][1]:
        return None
    for index, span in enumerate(spans):
        if at < span[1]:
            return others[index][0] + max(0, at - span[0])
    return others[-1][0]
