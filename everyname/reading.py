"""Reading trees out of lines of text.

Each reader is passed the text, the place where its part begins, the known names and the depth of
the tree that begins there; it returns the tree and the place behind it. What it takes is not
checked against the rules of trees, and its spaces and numbers may be written in other ways than
a program writes them: who calls read_line or read_whole gets only what reads back as the same text.
"""

from everyname.texts import BEHIND_NAME, BETWEEN, head_text, tree_text
from everyname.trees import DEEPEST, FORMS, GREATEST, MOST_PARTS, MOST_SOURCES, is_statement, is_tree
from everyname.words import LETTERS

DIGITS = "0123456789"


class Unreadable(ValueError):
    """A line is not the text of what it should be."""


def passed(text, at, part):
    """Return the place behind part, which must stand at this place."""
    if text[at:at + len(part)] != part:
        raise Unreadable()
    return at + len(part)


def run_of(text, at, marks):
    """Return the longest part from this place on that has no other characters than marks."""
    end = at
    while end < len(text) and text[end] in marks:
        end += 1
    return text[at:end]


def read_tree(text, at, known, depth):
    """Read an expression, a test or a number."""
    # A tree that is too deep is refused before Python's own stack is used up.
    if depth > DEEPEST or at >= len(text):
        raise Unreadable()
    mark = text[at]
    if mark == "(":
        if text[at:at + 6] == "(some " or text[at:at + 7] == "(every ":
            return read_quantifier(text, at + 1, known, depth)
        return read_between(text, at + 1, known, depth)
    if mark == "[":
        parts, at = read_parts(text, at + 1, known, depth, "]", ())
        return ("row",) + parts, at
    if mark == "{":
        return read_braces(text, at + 1, known, depth)
    if mark == "'":
        word = run_of(text, at + 1, LETTERS)
        return ("mark", word), passed(text, at + 1 + len(word), "'")
    if mark in DIGITS:
        return read_number(text, at)
    return read_word(text, at, known, depth)


def read_number(text, at):
    """Read a whole number."""
    digits = run_of(text, at, DIGITS)
    # Python refuses to make a number of too many digits.
    if len(digits) > len(str(GREATEST)):
        raise Unreadable()
    return ("whole", int(digits)), at + len(digits)


def read_word(text, at, known, depth):
    """Read what begins with a word."""
    word = run_of(text, at, LETTERS)
    at = at + len(word)
    if word in ("all", "true"):
        return (word,), at
    if word in ("join", "count"):
        inner, at = read_tree(text, passed(text, at, "("), known, depth + 1)
        return (word, inner), passed(text, at, ")")
    if word == "not":
        inner, at = read_tree(text, passed(text, at, " "), known, depth + 1)
        return (word, inner), at
    return ("known" if word in known else "var", word), at


def read_parts(text, at, known, depth, end, parts):
    """Read expressions that stand between commas, behind the parts read so far, up to the bracket end."""
    while text[at:at + 1] != end:
        if parts:
            at = passed(text, at, ", ")
        part, at = read_tree(text, at, known, depth + 1)
        parts = parts + (part,)
        if len(parts) > MOST_PARTS:
            raise Unreadable()
    return parts, at + 1


def read_braces(text, at, known, depth):
    """Read a set or a gather."""
    if text[at:at + 1] == "}":
        return ("set",), at + 1
    first, at = read_tree(text, at, known, depth + 1)
    if text[at:at + 5] != " for ":
        parts, at = read_parts(text, at, known, depth, "}", (first,))
        return ("set",) + parts, at
    sources = ()
    while text[at:at + 5] == " for " and len(sources) < MOST_SOURCES:
        pattern, source, at = read_source(text, at + 5, known, depth)
        sources = sources + ((pattern, source),)
    test = ("true",)
    if text[at:at + 4] == " if ":
        test, at = read_tree(text, at + 4, known, depth + 1)
    return ("gather", first, sources, test), passed(text, at, "}")


def read_source(text, at, known, depth):
    """Read a pattern and what its members are taken from."""
    pattern, at = read_pattern(text, at)
    source, at = read_tree(text, passed(text, at, " in "), known, depth + 1)
    return pattern, source, at


def read_pattern(text, at):
    """Read a variable, or variables between brackets."""
    if text[at:at + 1] != "[":
        word = run_of(text, at, LETTERS)
        return word, at + len(word)
    words = ()
    at = at + 1
    while text[at:at + 1] != "]":
        if words:
            at = passed(text, at, ", ")
        word = run_of(text, at, LETTERS)
        if not word or len(words) == MOST_PARTS:
            raise Unreadable()
        words = words + (word,)
        at = at + len(word)
    return words, at + 1


def read_quantifier(text, at, known, depth):
    """Read a test that begins with some or every."""
    word = run_of(text, at, LETTERS)
    pattern, source, at = read_source(text, at + len(word) + 1, known, depth)
    test, at = read_tree(text, passed(text, at, ": "), known, depth + 1)
    return (word, pattern, source, test), passed(text, at, ")")


def read_between(text, at, known, depth):
    """Read two trees with a sign between them."""
    left, at = read_tree(text, at, known, depth + 1)
    end = text.find(" ", at + 1)
    sign = text[at + 1:end]
    right, at = read_tree(text, passed(text, at, " " + sign + " "), known, depth + 1)
    return joined_by(sign, left, right), passed(text, at, ")")


def joined_by(sign, left, right):
    """Return the tree of two trees with a sign between them, which means another thing between numbers."""
    kind = FORMS[left[0]][0]
    for tag, mark in BETWEEN.items():
        if mark == sign and FORMS[tag][1] == kind:
            return (tag, left, right)
    return ("compare", left, sign, right)


def read_whole(text, kind, known):
    """Return the expression, test or number with this text; raise Unreadable if there is none."""
    tree, _ = read_tree(text, 0, known, 1)
    if not is_tree(tree, kind, known) or tree_text(tree) != text:
        raise Unreadable()
    return tree


def read_head(line):
    """Return the tag of the statement that a line without indentation begins and the text of what it tells."""
    for tag in ("while", "if"):
        if line.startswith(tag + " ") and line.endswith(":"):
            return tag, "", line[len(tag) + 1:-1]
    word = run_of(line, 0, LETTERS)
    for tag, mark in BEHIND_NAME.items():
        start = word + " " + mark + " "
        if line.startswith(start):
            return tag, word, line[len(start):]
    raise Unreadable()


def read_line(line, known):
    """Return the statement that a line without indentation begins, with no statements inside it yet."""
    tag, word, rest = read_head(line)
    tree, _ = read_tree(rest, 0, known, 1)
    if tag == "if":
        row = (tag, tree, (), ())
    else:
        row = (tag, tree, ()) if tag == "while" else (tag, word, tree)
    if not is_statement(row, known) or head_text(row) != line:
        raise Unreadable()
    return row
