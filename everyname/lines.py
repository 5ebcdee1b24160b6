"""Reading programs out of their lines: which line may follow which, and what they make together.

A line is read as a triple (level, kind, row). Its kind is "plain", "if", "while", "else" or "pass";
row is the statement that it begins, or None.
"""

from everyname.errors import BadText
from everyname.reading import Unreadable, read_line
from everyname.trees import DEEPEST_LEVEL
from everyname.words import are_known

INDENT = 2


def read_known(line):
    """Return the known names of a first line; raise BadText if it is none."""
    if line == "known":
        return ()
    start, space, rest = line.partition(" ")
    known = tuple(rest.split(", "))
    if start != "known" or space == "" or not are_known(known):
        raise BadText(1)
    return known


def read_triple(line, known):
    """Return the triple of a line, wherever it may stand; raise Unreadable if it can stand nowhere."""
    rest = line.lstrip(" ")
    spaces = len(line) - len(rest)
    level = spaces // INDENT + 1
    if spaces != (level - 1) * INDENT:
        raise Unreadable()
    if rest in ("pass", "else:"):
        return level, rest.rstrip(":"), None
    row = read_line(rest, known)
    return level, row[0] if row[0] in ("if", "while") else "plain", row


def may_begin(above, level, kind):
    """Tell whether a line may follow the line above, which asks for statements inside it."""
    if level != above[0] + 1 or kind == "else":
        return False
    # Second statements that are empty are not written; those on too deep a level are none.
    return above[1] != "else" if kind == "pass" else level <= DEEPEST_LEVEL


def may_go_on(triples, level, kind):
    """Tell whether a line may follow lines of which the last one asks for nothing."""
    deepest = triples[-1][0] - (1 if triples[-1][1] == "pass" else 0)
    if level > deepest or kind == "pass":
        return False
    if kind != "else":
        return True
    return level < DEEPEST_LEVEL and last_kind(triples, level) == "if"


def last_kind(triples, level):
    """Return the kind of the last line on this level."""
    at = len(triples) - 1
    while triples[at][0] != level:
        at = at - 1
    return triples[at][1]


def may_follow(triples, level, kind):
    """Tell whether a line may stand behind these, of which each one may stand behind those ahead of it."""
    if not triples:
        return level == 1 and kind not in ("else", "pass")
    if triples[-1][1] in ("if", "while", "else"):
        return may_begin(triples[-1], level, kind)
    return may_go_on(triples, level, kind)


def read_triples(lines, known):
    """Return the triples of the lines behind the first one; raise BadText with the line that is refused."""
    triples = []
    for k, line in enumerate(lines):
        try:
            level, kind, row = read_triple(line, known)
        except Unreadable:
            raise BadText(k + 2) from None
        if not may_follow(triples, level, kind):
            raise BadText(k + 2)
        triples.append((level, kind, row))
    if triples and triples[-1][1] in ("if", "while", "else"):
        raise BadText(len(lines) + 2)
    return triples


def rows_at(triples, at, level):
    """Return the statements on a level from the triple with the index at on, and the index behind them."""
    rows = []
    while at < len(triples) and triples[at][0] == level and triples[at][1] != "else":
        kind, row = triples[at][1], triples[at][2]
        at += 1
        if kind in ("if", "while"):
            inner, at = rows_at(triples, at, level + 1)
            row = row[:2] + (inner,) + row[3:]
            if kind == "if" and at < len(triples) and triples[at][:2] == (level, "else"):
                second, at = rows_at(triples, at + 1, level + 1)
                row = row[:3] + (second,)
        if kind != "pass":
            rows.append(row)
    return tuple(rows), at


def read_program(text):
    """Return the known names and the statements of the program with this text; raise BadText if there is none."""
    first, *rest = text.split("\n")
    known = read_known(first)
    statements, _ = rows_at(read_triples(rest, known), 0, 1)
    return known, statements
