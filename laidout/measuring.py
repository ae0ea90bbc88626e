"""A layout measured: what it costs, and where it's other than the text."""


def layout_cost(width, layout):
    """Give back how many bytes a layout's lines have beyond the width, all together, and how many lines it has."""
    beyond = 0
    lines = 0
    size = 0
    for byte in layout:
        if byte == 10:
            beyond += max(0, size - width)
            lines += 1
            size = 0
        else:
            size += 1
    return beyond, lines


def changed_gaps(program, gaps):
    """Give back of each gap that's other in the layout where it begins in the text, its size there, its new bytes."""
    changed = []
    for index, gap in enumerate(gaps):
        before = program.gap_bytes(index)
        if gap != before:
            changed.append((program.gap_begin(index), len(before), gap))
    return changed
