"""Worlds: named families with rules and with guards that hold at every n, made by steps that can be taken back."""

from everyname.checks import is_whole
from everyname.errors import BadName, BadProgram, BadRule, BadText, BadValue, EverynameError, NoSteps
from everyname.families import made_family
from everyname.lines import read_known
from everyname.moments import (Moment, check_guards, done_moment, failing_span, family_pieces, knowing_moment,
                               names_read, tables_of, with_rules)
from everyname.orbits import members_in
from everyname.pages import MOST_ALLOWED, read_step, step_end, step_lines
from everyname.programs import Program
from everyname.regions import is_always, piece_at, span_of, together
from everyname.showing import shown_within
from everyname.texts import known_line
from everyname.trees import bound_names, free_names, is_statement, is_tree, names_in, reads_name
from everyname.words import are_known, is_free_word

ALLOWED = 60
MOST_CLAUSES = 4
MOST_SHOWN = 200


def check_name(name, known):
    """Raise BadName if name may not be the name of a family."""
    if not is_free_word(name) or name in known:
        raise BadName(name)


def place_in(rows, name):
    """Return the index of the rule or guard of this name; the one behind the last if there is none."""
    for k, row in enumerate(rows):
        if row[0] == name:
            return k
    return len(rows)


def check_rule_name(moment, name, place):
    """Raise BadName if a rule of this name may not stand at this place."""
    check_name(name, moment.known)
    read_ahead = [names_read(other, clauses) for other, clauses in moment.rules[:place]]
    if name in moment.told or any([name in names for names in read_ahead]):
        raise BadName(name)


def is_clause(e, moment, name, place):
    """Tell whether e may be a clause of the rule of this name at this place."""
    if not is_tree(e, "expression", moment.known) or e[0] != "gather" or name in bound_names(e):
        return False
    behind = [other for other, _ in moment.rules[place:] if other != name]
    if any([other in behind for other in free_names(e)]):
        return False
    # The rule's own name stands as a whole source alone.
    parts = [e[1], e[3]] + [source for _, source in e[2] if source != ("var", name)]
    return not any([reads_name(part, name) for part in parts])


def check_clauses(clauses, moment, name, place):
    """Raise BadRule if these may not be the clauses of the rule of this name."""
    if not isinstance(clauses, tuple) or len(clauses) > MOST_CLAUSES:
        raise BadRule(name, -1)
    for k, e in enumerate(clauses):
        if not is_clause(e, moment, name, place):
            raise BadRule(name, k)


def check_before(before, known):
    """Raise BadName with the first wrong word of the pairs of a guard."""
    pasts = {}
    for past, now in before:
        check_name(past, known)
        if past in pasts:
            raise BadName(past)
        pasts[past] = True
        check_name(now, known)


def words_used(moment):
    """Return the words that may not become known, because something in the world has them already."""
    found = {name: True for name in moment.told}
    for name, clauses in moment.rules:
        found[name] = True
        for clause in clauses:
            found = {**found, **names_in(clause)}
    for _, test, before in moment.guards:
        found = {**found, **names_in(test), **{word: True for pair in before for word in pair}}
    return found


def is_told(moment, name):
    """Tell whether name is the name of a rule, or of a told family that has a member at some n."""
    if name in moment.ruled:
        return True
    return name in moment.told and any([bool(members_in(piece[3]).orbits) for piece in moment.told[name]])


def are_same(known, pieces, others):
    """Tell whether two families have the same value at every n."""
    return is_always(known, together({"a": pieces, "b": others}), ("same", ("var", "a"), ("var", "b")))


def are_same_worlds(now, then):
    """Tell whether two moments have the same known names, families, number allowed, rules and guards."""
    if (now.known, now.limit, now.rules, now.guards) != (then.known, then.limit, then.rules, then.guards):
        return False
    names = {**now.told, **then.told, **now.ruled}
    return all([are_same(now.known, family_pieces(now, name), family_pieces(then, name)) for name in names])


def set_at(rows, place, row):
    """Return the rows with another one at a place, which may be behind the last one."""
    return rows[:place] + (row,) + rows[place + 1:]


class Trial:
    """An attempt in a world; kept is the row of steps that the world has behind it."""

    def __init__(self, world):
        self._world = world
        self.kept = world._steps

    def keep(self):
        """Let the world be behind the attempt what it is now."""
        self.kept = self._world._steps


class World:
    """Known names, told families, rules and guards; each step but a refused one is the last one of a row."""

    def __init__(self, known=()):
        if not are_known(known):
            raise BadProgram(())
        self._first = Moment(known, {}, (), {}, (), ALLOWED)
        # Pairs of the lines of a step and the moment behind it.
        self._steps = ()
        self._floor = 0

    @classmethod
    def read(cls, page):
        """Return the world with this page."""
        lines = page.split("\n")
        world = cls(read_known(lines[0]))
        at = 1
        while at < len(lines):
            end = step_end(lines, at)
            kind, told = read_step(lines[at:end], world.names, at + 1)
            try:
                world._redo(kind, told)
            except EverynameError:
                raise BadText(at + 1) from None
            at = end
        return world

    def _redo(self, kind, told):
        """Do a step that is read from a page."""
        if kind == "know":
            self.know(told)
        elif kind == "allow":
            self.allow(told)
        elif kind == "drop":
            self.drop(told)
        elif kind == "rule":
            self.rule(told[0], told[1])
        elif kind == "guard":
            self.guard(told[0], told[1], told[2])
        else:
            self.do(Program(self.names, told))

    def _now(self):
        """Return the moment behind the last step."""
        return self._steps[-1][1] if self._steps else self._first

    def _done(self, kind, told, moment, then):
        """Add a step that leads to a moment, if its guards hold; then is what the guards look back at."""
        check_guards(moment, then)
        self._steps = self._steps + ((step_lines(kind, told), moment),)

    @property
    def names(self):
        """The known names."""
        return self._now().known

    @property
    def allowed(self):
        """The greatest number of while tests of a program, and of rounds of a rule."""
        return self._now().limit

    @property
    def page(self):
        """The text of all steps."""
        lines = [known_line(self._first.known)]
        for step, _ in self._steps:
            lines.extend(list(step))
        return "\n".join(lines)

    def do(self, program):
        """Execute a program: its variables are the families of the same names."""
        then = self._now()
        self._done("do", program.statements, done_moment(then, program), then)

    def rule(self, name, clauses):
        """Set a rule: its family is the least one that has what the clauses give."""
        then = self._now()
        place = place_in(then.rules, name)
        check_rule_name(then, name, place)
        check_clauses(clauses, then, name, place)
        rules = set_at(then.rules, place, (name, clauses))
        moment = with_rules(Moment(then.known, then.told, rules, {}, then.guards, then.limit), then)
        self._done("rule", (name, clauses), moment, then)

    def guard(self, name, test, before=()):
        """Set a guard: a test that has to hold at every n behind each step."""
        then = self._now()
        if not is_free_word(name):
            raise BadName(name)
        check_before(before, then.known)
        if not is_tree(test, "test", then.known):
            raise BadProgram(())
        guard = (name, test, tuple([(past, now) for past, now in before]))
        guards = set_at(then.guards, place_in(then.guards, name), guard)
        self._done("guard", guard, Moment(then.known, then.told, then.rules, then.ruled, guards, then.limit), then)

    def drop(self, name):
        """Take the guard of this name out."""
        then = self._now()
        place = place_in(then.guards, name)
        if place == len(then.guards):
            raise BadName(name)
        guards = then.guards[:place] + then.guards[place + 1:]
        self._done("drop", name, Moment(then.known, then.told, then.rules, then.ruled, guards, then.limit), then)

    def know(self, word):
        """Let one of the others become the known name word."""
        then = self._now()
        check_name(word, then.known)
        if word in words_used(then):
            raise BadName(word)
        moment = knowing_moment(then, word)
        self._done("know", word, moment, moment)

    def allow(self, k):
        """Set the number allowed."""
        if not is_whole(k) or not 1 <= k <= MOST_ALLOWED:
            raise BadValue(k)
        then = self._now()
        moment = with_rules(Moment(then.known, then.told, then.rules, {}, then.guards, k), then)
        self._done("allow", k, moment, then)

    def breaks(self, program):
        """Return pairs (name, Span) for the guards that would not hold at all n behind a program."""
        then = self._now()
        moment = done_moment(then, program)
        found = [(guard[0], failing_span(moment, then, guard)) for guard in moment.guards]
        return tuple([(name, span) for name, span in found if span])

    def span(self, test):
        """Return the Span of all n at which a test holds."""
        now = self._now()
        if not is_tree(test, "test", now.known):
            raise BadProgram(())
        return span_of(now.known, together(tables_of(now, list(free_names(test)))), test)

    def undo(self):
        """Take back the last step."""
        if len(self._steps) <= self._floor:
            raise NoSteps()
        self._steps = self._steps[:-1]

    def past(self, k):
        """Return a new world that is what this one was behind its first k steps."""
        world = World(self._first.known)
        world._steps = self._steps[:k]
        return world

    def attempt(self, action):
        """Return what the action returns; behind it, the world is as it was or as it was kept."""
        trial = Trial(self)
        floor = self._floor
        self._floor = len(self._steps)
        try:
            return action(self, trial)
        finally:
            self._steps = trial.kept
            self._floor = floor

    def values_at(self, n):
        """Return the shown values of all told and ruled families at n, by their names."""
        now = self._now()
        found = {}
        for name in sorted([str(word) for word in {**now.told, **now.ruled}]):
            found[name] = shown_within(n, piece_at(family_pieces(now, name), n)[3], MOST_SHOWN)
        return found

    def __getitem__(self, at):
        now = self._now()
        check_name(at, now.known)
        return made_family(now.known, family_pieces(now, at))

    def __setitem__(self, at, worth):
        row = ("put", at, worth)
        if not is_statement(row, self.names):
            raise BadProgram(())
        self.do(Program(self.names, (row,)))

    def __contains__(self, x):
        return isinstance(x, str) and is_told(self._now(), x)

    def __iter__(self):
        raise TypeError("a world is not iterated over")

    def __len__(self):
        return len(self._steps)

    def __eq__(self, other):
        return isinstance(other, World) and are_same_worlds(self._now(), other._now())
