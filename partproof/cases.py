"""Cases: answers, and reasons that are kept."""

from partproof.books import check_told
from partproof.searches import Search
from partproof.tellings import Tellings


class Reasons:
    """Clashes that are kept with the literals that they use."""

    def __init__(self):
        self.tellings = Tellings()
        self.clashes = []

    def keep(self, steps):
        """Keeps a clash."""
        used = {self.literal(step[1], step[2]): True for step in steps if step[0] == "told"}
        self.clashes.append((used, steps))

    def literal(self, atom, sign):
        """What a literal is known by."""
        return (self.tellings.key_of(atom), sign)

    def found(self, path):
        """A kept clash of which the path has all literals, or None."""
        standing = {self.literal(atom, sign): True for atom, sign in path}
        for used, steps in self.clashes:
            if all([literal in standing for literal in used]):
                return steps
        return None


def answer(names, told):
    """A world that makes told statements true, or a book that shows that there is none."""
    check_told(names, told)
    return Search(names, told).answer()
