"""The trees of programs: what an expression, a test, a number and a statement may be made of.

A tree is a nested tuple whose first item is its tag. Here known is a tuple of known names and bound
a tuple of the variables that are bound around a tree.
"""

from everyname.checks import is_whole
from everyname.compares import is_sign
from everyname.words import is_free_word, is_word

# Each tag with the kind of its tree and the kinds of its items; of "row" and "set" the most items.
FORMS = {
    "known": ("expression", "name"), "mark": ("expression", "word"), "var": ("expression", "variable"),
    "row": ("expression", "expression", "expression", "expression", "expression"),
    "set": ("expression", "expression", "expression", "expression", "expression"),
    "all": ("expression",), "join": ("expression", "expression"),
    "union": ("expression", "expression", "expression"), "meet": ("expression", "expression", "expression"),
    "without": ("expression", "expression", "expression"), "either": ("expression", "expression", "expression"),
    "gather": ("expression", "expression", "sources", "test"),
    "true": ("test",), "not": ("test", "test"), "and": ("test", "test", "test"), "or": ("test", "test", "test"),
    "same": ("test", "expression", "expression"), "in": ("test", "expression", "expression"),
    "within": ("test", "expression", "expression"),
    "some": ("test", "pattern", "expression", "test"), "every": ("test", "pattern", "expression", "test"),
    "compare": ("test", "number", "sign", "number"),
    "whole": ("number", "integer"), "count": ("number", "expression"),
    "plus": ("number", "number", "number"), "minus": ("number", "number", "number"),
    "times": ("number", "number", "number"),
    "put": ("statement", "variable", "expression"), "add": ("statement", "variable", "expression"),
    "drop": ("statement", "variable", "expression"),
    "if": ("statement", "test", "rows", "rows"), "while": ("statement", "test", "rows"),
}
DEEPEST = 40
DEEPEST_LEVEL = 10
MOST_PARTS = 4
MOST_SOURCES = 3
GREATEST = 10 ** 60


def is_form(tree, kind):
    """Tell whether tree is a tuple with a tag of this kind and as many items as belong to it."""
    if not isinstance(tree, tuple) or not tree or not isinstance(tree[0], str) or tree[0] not in FORMS:
        return False
    form = FORMS[tree[0]]
    if form[0] != kind:
        return False
    return len(tree) == len(form) or (tree[0] in ("row", "set") and len(tree) < len(form))


def is_variable(word, known):
    """Tell whether word may be a variable."""
    return is_free_word(word) and word not in known


def pattern_names(pattern):
    """Return the variables of a pattern as a tuple."""
    return (pattern,) if isinstance(pattern, str) else pattern


def is_pattern(pattern, known, bound):
    """Tell whether pattern is a pattern that may stand where these variables are bound."""
    if not isinstance(pattern, (str, tuple)):
        return False
    names = pattern_names(pattern)
    if len(names) > MOST_PARTS or not all([is_variable(name, known) and name not in bound for name in names]):
        return False
    return len(set(names)) == len(names)


def is_item(item, kind, known):
    """Tell whether an item that is no tree is of this kind."""
    if kind == "name":
        return isinstance(item, str) and item in known
    if kind == "word":
        return is_word(item)
    if kind == "variable":
        return is_variable(item, known)
    if kind == "sign":
        return is_sign(item)
    if kind == "integer":
        return is_whole(item) and 0 <= item <= GREATEST
    return kind == "rows" and isinstance(item, tuple)


def is_tree(tree, kind, known, bound=(), depth=1):
    """Tell whether tree is an expression, a test or a number (its kind) that breaks no rule."""
    if depth > DEEPEST or not is_form(tree, kind):
        return False
    if tree[0] == "gather":
        return is_gather(tree, known, bound, depth)
    if tree[0] in ("some", "every"):
        pattern, source, test = tree[1:]
        return (is_pattern(pattern, known, bound) and is_tree(source, "expression", known, bound, depth + 1)
                and is_tree(test, "test", known, bound + pattern_names(pattern), depth + 1))
    for item, part in zip(tree[1:], FORMS[tree[0]][1:]):
        if part in ("expression", "test", "number"):
            if not is_tree(item, part, known, bound, depth + 1):
                return False
        elif not is_item(item, part, known):
            return False
    return True


def is_gather(tree, known, bound, depth):
    """Tell whether a gather with the right number of items breaks no rule."""
    _, e, sources, test = tree
    if not isinstance(sources, tuple) or not 1 <= len(sources) <= MOST_SOURCES:
        return False
    for pair in sources:
        if not isinstance(pair, tuple) or len(pair) != 2:
            return False
        pattern, source = pair
        if not is_pattern(pattern, known, bound) or not is_tree(source, "expression", known, bound, depth + 1):
            return False
        bound = bound + pattern_names(pattern)
    return is_tree(e, "expression", known, bound, depth + 1) and is_tree(test, "test", known, bound, depth + 1)


def is_statement(row, known):
    """Tell whether row is a statement that breaks no rule, whatever the statements inside it are."""
    if not is_form(row, "statement"):
        return False
    for item, part in zip(row[1:], FORMS[row[0]][1:]):
        if part in ("expression", "test"):
            if not is_tree(item, part, known):
                return False
        elif not is_item(item, part, known):
            return False
    return True


def inner_rows(row):
    """Return the tuples of statements inside a statement."""
    return row[2:] if row[0] in ("if", "while") else ()


def first_wrong(rows, known, place=()):
    """Return the path of the first wrong statement, in the order of the text, or None."""
    for k, row in enumerate(rows):
        here = place + (k,)
        # A path has two numbers for each level but the first.
        if len(here) > 2 * DEEPEST_LEVEL - 1 or not is_statement(row, known):
            return here
        for side, inner in enumerate(inner_rows(row)):
            wrong = first_wrong(inner, known, here + (side,))
            if wrong is not None:
                return wrong
    return None


def free_names(tree):
    """Return the variables of a tree that nothing in it binds, as the keys of a dict."""
    if tree[0] == "var":
        return {tree[1]: True}
    if tree[0] == "gather":
        return free_in_sources(tree[2], (tree[1], tree[3]))
    if tree[0] in ("some", "every"):
        return free_in_sources(((tree[1], tree[2]),), (tree[3],))
    found = {}
    for part in tree[1:]:
        if isinstance(part, tuple):
            found = {**found, **free_names(part)}
    return found


def free_in_sources(sources, parts):
    """Return the free variables of the sources and of the parts for which they bind their patterns."""
    found = {}
    bound = ()
    for pattern, source in sources:
        found = {**found, **{name: True for name in free_names(source) if name not in bound}}
        bound = bound + pattern_names(pattern)
    for part in parts:
        found = {**found, **{name: True for name in free_names(part) if name not in bound}}
    return found


def state_names(rows):
    """Return the state variables of statements, as the keys of a dict."""
    found = {}
    for row in rows:
        if row[0] in ("if", "while"):
            found = {**found, **free_names(row[1])}
            for inner in inner_rows(row):
                found = {**found, **state_names(inner)}
        else:
            found = {**found, row[1]: True, **free_names(row[2])}
    return found


def bound_names(tree):
    """Return the variables that patterns in a tree bind, at any depth, as the keys of a dict."""
    found = {}
    if tree[0] in ("some", "every"):
        found = {name: True for name in pattern_names(tree[1])}
    elif tree[0] == "gather":
        found = {name: True for pattern, _ in tree[2] for name in pattern_names(pattern)}
    for part in inner_trees(tree):
        found = {**found, **bound_names(part)}
    return found


def inner_trees(tree):
    """Return the expressions, tests and numbers directly inside a tree."""
    if tree[0] == "gather":
        return [tree[1]] + [source for _, source in tree[2]] + [tree[3]]
    if tree[0] in ("some", "every"):
        return [tree[2], tree[3]]
    return [part for part in tree[1:] if isinstance(part, tuple)]


def names_in(tree):
    """Return the variables of a tree, bound ones and others, as the keys of a dict."""
    return {**free_names(tree), **bound_names(tree)}


def trees_in(rows):
    """Return the expressions and tests of statements and of those inside them."""
    found = []
    for row in rows:
        found.append(row[1] if row[0] in ("if", "while") else row[2])
        for inner in inner_rows(row):
            found.extend(list(trees_in(inner)))
    return found


def assigned_names(rows):
    """Return the variables that statements assign, executed or not, as the keys of a dict."""
    found = {}
    for row in rows:
        if row[0] not in ("if", "while"):
            found[row[1]] = True
        for inner in inner_rows(row):
            found = {**found, **assigned_names(inner)}
    return found


def reads_name(tree, name):
    """Tell whether a variable of this name stands in a tree, bound or not."""
    if tree[0] == "var":
        return tree[1] == name
    return any([reads_name(part, name) for part in inner_trees(tree)])
