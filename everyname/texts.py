"""The texts of trees and statements. Each line of a statement is written with its indentation."""

from everyname.trees import pattern_names

# The sign that stands between the two parts of a tree, by its tag.
BETWEEN = {"union": "|", "meet": "&", "without": "-", "either": "^", "same": "==", "in": "in", "within": "<=",
           "and": "and", "or": "or", "plus": "+", "minus": "-", "times": "*"}
BEHIND_NAME = {"put": "=", "add": "|=", "drop": "-="}


def known_line(known):
    """Return the first line of a text with these known names."""
    return "known " + ", ".join(known) if known else "known"


def pattern_text(pattern):
    """Return the text of a pattern."""
    return pattern if isinstance(pattern, str) else "[" + ", ".join(pattern_names(pattern)) + "]"


def source_text(pattern, source):
    """Return the text of a pattern and what its members are taken from."""
    return f"{pattern_text(pattern)} in {tree_text(source)}"


def tree_text(tree):
    """Return the text of an expression, a test or a number."""
    tag = tree[0]
    if tag in BETWEEN:
        return f"({tree_text(tree[1])} {BETWEEN[tag]} {tree_text(tree[2])})"
    if tag == "compare":
        return f"({tree_text(tree[1])} {tree[2]} {tree_text(tree[3])})"
    if tag in ("known", "var"):
        return tree[1]
    if tag == "mark":
        return "'" + tree[1] + "'"
    if tag == "whole":
        return str(tree[1])
    if tag in ("all", "true"):
        return tag
    if tag in ("join", "count"):
        return f"{tag}({tree_text(tree[1])})"
    if tag == "not":
        return "not " + tree_text(tree[1])
    if tag in ("some", "every"):
        return f"({tag} {source_text(tree[1], tree[2])}: {tree_text(tree[3])})"
    if tag == "gather":
        return gather_text(tree)
    parts = ", ".join([tree_text(part) for part in tree[1:]])
    return "[" + parts + "]" if tag == "row" else "{" + parts + "}"


def gather_text(tree):
    """Return the text of a gather."""
    _, e, sources, test = tree
    words = [tree_text(e)] + ["for " + source_text(pattern, source) for pattern, source in sources]
    if test != ("true",):
        words.append("if " + tree_text(test))
    return "{" + " ".join(words) + "}"


def head_text(row):
    """Return the text of the first line of a statement, without its indentation."""
    if row[0] in BEHIND_NAME:
        return f"{row[1]} {BEHIND_NAME[row[0]]} {tree_text(row[2])}"
    return f"{row[0]} {tree_text(row[1])}:"


def statement_lines(rows, indent=""):
    """Return the lines of statements."""
    found = []
    for row in rows:
        found.append(indent + head_text(row))
        if row[0] in ("if", "while"):
            found.extend(list(statement_lines(row[2], indent + "  ") or [indent + "  pass"]))
        if row[0] == "if" and row[3]:
            found.append(indent + "else:")
            found.extend(list(statement_lines(row[3], indent + "  ")))
    return found


def program_text(known, statements):
    """Return the text of a program."""
    return "\n".join([known_line(known)] + statement_lines(statements))
