"""Statements, their atoms and their terms."""

from partproof.errors import BadStatement, BadTerm
from partproof.numbering import Numbering
from partproof.terms import DEEPEST, kind_within, word_of

ATOM_WORDS = ("atmost", "below", "same")
LENGTHS = {"atmost": 3, "below": 3, "same": 3, "not": 2, "and": 2, "or": 2}


def check_statement(names, statement):
    """Refuses what is no statement of the names."""
    try:
        check_within(names, statement, DEEPEST)
    except BadTerm:
        raise BadStatement("an atom speaks of what is no term, or too deep") from None


def is_atom(names, thing):
    """Whether a thing is an atom of the names."""
    if word_of(thing) not in ATOM_WORDS:
        return False
    try:
        check_statement(names, thing)
    except BadStatement:
        return False
    return True


def check_within(names, statement, room):
    """Refuses what is no statement that may be as deep as room tells."""
    word = word_of(statement)
    # As with terms, room is asked before the statement is looked into.
    if room < 1 or word not in LENGTHS or len(statement) != LENGTHS[word]:
        raise BadStatement("it is no statement, or too deep")
    if word == "not":
        check_within(names, statement[1], room - 1)
    elif word in ("and", "or"):
        check_all(names, statement[1], room - 1)
    else:
        check_atom(names, statement, room - 1)


def check_all(names, statements, room):
    """Refuses what is no tuple of statements."""
    if not isinstance(statements, tuple):
        raise BadStatement("and, or are of a tuple of statements")
    for statement in statements:
        check_within(names, statement, room)


def check_atom(names, atom, room):
    """Refuses an atom of terms of kinds of which it can't speak."""
    kind = kind_within(names, atom[1], room)
    if kind_within(names, atom[2], room) != kind:
        raise BadStatement("an atom speaks of two terms of one kind")
    if kind != "num" and (kind, atom[0]) != ("thing", "same"):
        raise BadStatement("an atom speaks of nums, or that two things are the same")


def standing_atoms(statement):
    """The atoms of a statement, as often as they stand in it."""
    if statement[0] == "not":
        return standing_atoms(statement[1])
    if statement[0] not in ("and", "or"):
        return [statement]
    atoms = []
    for part in statement[1]:
        atoms.extend(standing_atoms(part))
    return atoms


def atoms_of(statement):
    """The atoms of a statement, each once, in the order in which they first come."""
    numbering = Numbering()
    atoms = {}
    for atom in standing_atoms(statement):
        key = (atom[0], numbering.number(atom[1]), numbering.number(atom[2]))
        atoms.setdefault(key, atom)
    return list(atoms.values())


def terms_of(statement):
    """The parts of all terms in a statement's atoms, each once, inner ones ahead."""
    numbering = Numbering()
    for atom in standing_atoms(statement):
        numbering.number(atom[1])
        numbering.number(atom[2])
    return numbering.terms
