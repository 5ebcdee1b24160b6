"""Pages: the texts of the steps of a world.

A step is read as a pair (kind, arguments): ("know", word), ("allow", number), ("drop", name),
("rule", (name, clauses)), ("guard", (name, test, before)) or ("do", statements).
"""

from everyname.errors import BadText
from everyname.lines import read_triples, rows_at
from everyname.reading import Unreadable, read_whole
from everyname.texts import statement_lines, tree_text
from everyname.words import is_word

INDENT = "  "
MOST_ALLOWED = 1000
BEFORE = " before "


def step_lines(kind, told):
    """Return the lines of a step."""
    if kind == "do":
        return ("do",) + tuple(statement_lines(told, INDENT))
    if kind == "rule":
        return ("rule " + told[0],) + tuple([INDENT + tree_text(clause) for clause in told[1]])
    if kind == "guard":
        name, test, before = told
        pairs = tuple([INDENT + past + BEFORE + now for past, now in before])
        return ("guard " + name,) + pairs + (INDENT + tree_text(test),)
    return (kind + " " + str(told),)


def is_allowed_text(text):
    """Tell whether text is a number that may be allowed, in digits without leading zeros."""
    if len(text) > len(str(MOST_ALLOWED)) or text == "" or not all([mark in "0123456789" for mark in text]):
        return False
    return text[0] != "0" and int(text) <= MOST_ALLOWED


def read_head(line, number):
    """Return the kind of a step and the word of its first line; raise BadText if it is none."""
    if line == "do":
        return "do", ""
    kind, _, rest = line.partition(" ")
    if kind in ("know", "drop", "rule", "guard") and is_word(rest):
        return kind, rest
    if kind == "allow" and is_allowed_text(rest):
        return kind, rest
    raise BadText(number)


def step_end(lines, at):
    """Return the index behind the last line of the step whose first line has the index at."""
    end = at + 1
    while end < len(lines) and lines[end].startswith(INDENT):
        end += 1
    return end


def read_tree_line(line, kind, known, number):
    """Return the tree of an indented line; raise BadText if it is none."""
    try:
        return read_whole(line[len(INDENT):], kind, known)
    except Unreadable:
        raise BadText(number) from None


def read_clauses(lines, known, number):
    """Return the clauses of a rule, whose first line has this number."""
    found = []
    for k, line in enumerate(lines):
        clause = read_tree_line(line, "expression", known, number + k + 1)
        if clause[0] != "gather":
            raise BadText(number + k + 1)
        found.append(clause)
    return tuple(found)


def pair_of(line):
    """Return the pair of words of a line of before, or None if it is no such line."""
    past, sign, now = line[len(INDENT):].partition(BEFORE)
    return (past, now) if sign and is_word(past) and is_word(now) else None


def read_guard(lines, known, number):
    """Return the test and the pairs of a guard, whose first line has this number."""
    before = ()
    while len(before) < len(lines) and pair_of(lines[len(before)]) is not None:
        before = before + (pair_of(lines[len(before)]),)
    at = len(before)
    if at == len(lines):
        raise BadText(number + at + 1)
    test = read_tree_line(lines[at], "test", known, number + at + 1)
    if at + 1 < len(lines):
        raise BadText(number + at + 2)
    return test, before


def read_rows(lines, known, number):
    """Return the statements of a do, whose line has this number."""
    try:
        triples = read_triples([line[len(INDENT):] for line in lines], known)
    except BadText as wrong:
        # For a program, the line ahead of its statements has the number 1.
        raise BadText(wrong.line + number - 1) from None
    return rows_at(triples, 0, 1)[0]


def read_step(lines, known, number):
    """Return the kind of a step and what it tells, from all its lines, of which the first one has this number."""
    kind, word = read_head(lines[0], number)
    rest = lines[1:]
    if kind == "do":
        return kind, read_rows(rest, known, number)
    if kind == "rule":
        return kind, (word, read_clauses(rest, known, number))
    if kind == "guard":
        test, before = read_guard(rest, known, number)
        return kind, (word, test, before)
    if rest:
        raise BadText(number + 1)
    return kind, int(word) if kind == "allow" else word
