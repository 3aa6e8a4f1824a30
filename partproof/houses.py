"""Houses: told statements that stand, and the answer of them."""

from partproof.cases import answer
from partproof.errors import NotTold
from partproof.statements import check_statement
from partproof.worlds import World


class House:
    """Statements of names, told one behind another and taken back from behind."""

    def __init__(self, names):
        self.names = names
        self.statements = []
        # The answer of those that stand, once it was asked for.
        self.known = None

    def tell(self, statement):
        """Puts a statement behind the others."""
        check_statement(self.names, statement)
        self.statements.append(statement)
        self.known = None

    def back(self, many):
        """Takes so many of the last statements back."""
        if not 0 <= many <= len(self.statements):
            raise NotTold("so many statements do not stand")
        self.statements = self.statements[:len(self.statements) - many]
        self.known = None

    def told(self):
        """The statements that stand, as a new list."""
        return list(self.statements)

    def answer(self):
        """A world that makes the statements that stand true, or a book that shows that there is none."""
        if self.known is None:
            self.known = answer(self.names, tuple(self.statements))
        if isinstance(self.known, World):
            # The asker may change what is told, so the house keeps its own.
            known = self.known
            return World(known.numbers, known.things, known.functions, known.arrays)
        return self.known
