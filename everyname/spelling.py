"""The spelling of keys: texts that shapes have, the same for equal shapes only.

A key has the keys of the shape's parts in it. As long as these are short, they simply stand one behind the
other. Otherwise the key is a list of lines, one for each different shape in it: a line tells the parts of its
shape by the numbers of their lines, which stand ahead of it. So a key does not get long where the same shape
stands at very many places, as it may behind many rounds of a loop.
"""

LONG = 2000


def labels_text(labels):
    """Return the text of labels."""
    return "(" + " ".join([str(label) for label in labels]) + ")" if labels else ""


def part_text(value):
    """Return the text of a part of a greater shape, told by its shape and labels."""
    shape, labels = value
    return shape.key + labels_text(labels)


def lines_of(shape):
    """Return the lines (key, start, parts, end) of a shape, its own one as the last.

    The parts are pairs of the number of a line and the text of labels.
    """
    return shape.lines if shape.lines else ((shape.key, shape.key, (), ""),)


def line_text(start, parts, end):
    """Return the text of a line."""
    return start + ", ".join([str(number) + text for number, text in parts]) + end


def all_lines(parts):
    """Return the lines of all parts, each once, and the pair of a line's number and a text for each part."""
    places = {}
    found = []
    pairs = []
    for shape, labels in parts:
        if shape.key not in places:
            numbers = []
            for key, start, inner, end in lines_of(shape):
                if key not in places:
                    places[key] = len(found)
                    found.append((key, start, tuple([(numbers[k], text) for k, text in inner]), end))
                numbers.append(places[key])
        pairs.append((places[shape.key], labels_text(labels)))
    return found, tuple(pairs)


def spelled(start, parts, end):
    """Return the key of a shape with these parts, told by shapes and labels, and its lines, if it has any."""
    if all([len(shape.key) <= LONG for shape, _ in parts]):
        return start + ", ".join([part_text(part) for part in parts]) + end, ()
    lines, pairs = all_lines(parts)
    texts = [line_text(first, inner, last) for _, first, inner, last in lines]
    key = "<" + "; ".join(texts + [line_text(start, pairs, end)]) + ">"
    return key, tuple(lines) + ((key, start, pairs, end),)
