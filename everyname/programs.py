"""Programs: known names, and statements that build sets."""

from everyname.errors import BadProgram
from everyname.lines import read_program
from everyname.texts import program_text
from everyname.trees import first_wrong, state_names
from everyname.words import are_known


class Program:
    """A program; variables is the tuple of all its state variables, sorted."""

    def __init__(self, known=(), statements=()):
        if not are_known(known) or not isinstance(statements, tuple):
            raise BadProgram(())
        wrong = first_wrong(statements, known)
        if wrong is not None:
            raise BadProgram(wrong)
        self.known = known
        self.statements = statements
        self.variables = tuple(sorted([str(name) for name in state_names(statements)]))

    @classmethod
    def read(cls, text):
        """Return the program with this text."""
        known, statements = read_program(text)
        return cls(known, statements)

    @property
    def text(self):
        """The text of the program."""
        return program_text(self.known, self.statements)

    def with_known(self, word):
        """Return the program with the same statements and one more known name."""
        return Program(self.known + (word,), self.statements)

    def then(self, other):
        """Return the program that executes the statements of this one and then those of the other one."""
        added = tuple([word for word in other.known if word not in self.known])
        return Program(self.known + added, self.statements + other.statements)

    def __add__(self, other):
        if not isinstance(other, Program):
            return NotImplemented
        return self.then(other)

    def __eq__(self, other):
        return isinstance(other, Program) and self.known == other.known and self.statements == other.statements
