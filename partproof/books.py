"""Books of cases, and the checker that lets them by."""

from partproof.errors import BadStatement
from partproof.fractions import is_whole
from partproof.statements import ATOM_WORDS, check_statement, is_atom
from partproof.steps import facts_shown
from partproof.tellings import Tellings, tellings_of
from partproof.terms import word_of

LENGTHS = {"plain": 2, "clash": 2, "case": 4, "cut": 5}


def keyed(tellings, statement):
    """A statement with keys in the place of its atoms."""
    word = statement[0]
    if word in ATOM_WORDS:
        return ("key", tellings.key_of(statement))
    if word == "not":
        return ("not", keyed(tellings, statement[1]))
    return (word, tuple([keyed(tellings, part) for part in statement[1]]))


def truth_by(tellings, thing):
    """Whether a statement with keys is true or false by tellings, or None where it is open."""
    word, inner = thing
    if word == "key":
        return tellings.truth_of(inner)
    if word == "not":
        truth = truth_by(tellings, inner)
        return None if truth is None else not truth
    # One of these settles an and by False, an or by True; else an open one leaves it open.
    truths = [truth_by(tellings, part) for part in inner]
    settling = word == "or"
    if settling in truths:
        return settling
    return None if None in truths else not settling


def is_false(statement, path):
    """Whether a statement is false by the path alone."""
    tellings = tellings_of(path)
    return truth_by(tellings, keyed(tellings, statement)) is False


class Checking:
    """A checker's told statements, and the tellings of the path at which it is."""

    def __init__(self, names, statements):
        self.names = names
        self.tellings = Tellings()
        self.statements = [keyed(self.tellings, statement) for statement in statements]

    def go_to(self, many, literals):
        """Makes the path one of its first so many literals and others behind them."""
        self.tellings.back_to(many)
        for atom, sign in literals:
            self.tellings.tell(atom, sign)


def within_plain(checking, book):
    """No books, where the told statement is false by the path."""
    number = book[1]
    if not is_whole(number) or not 0 <= number < len(checking.statements):
        return None
    return [] if truth_by(checking.tellings, checking.statements[number]) is False else None


def within_clash(checking, book):
    """No books, where the steps are a clash for the path."""
    return None if facts_shown(checking.names, checking.tellings, book[1]) is None else []


def within_case(checking, book):
    """A book for each sign of the atom."""
    atom, yes, no = book[1:]
    if not is_atom(checking.names, atom):
        return None
    return [(yes, ((atom, True),)), (no, ((atom, False),))]


def within_cut(checking, book):
    """A book for the numbers up to that of the cut, and one for those behind it."""
    name, number, low, high = book[1:]
    if checking.names.bounds(name) is None or not is_whole(number):
        return None
    unknown = ("unknown", name)
    up_to = ("atmost", unknown, ("number", (number, 1)))
    behind = ("atmost", ("number", (number + 1, 1)), unknown)
    return [(low, ((up_to, True),)), (high, ((behind, True),))]


DEEDS = {
    "plain": within_plain,
    "clash": within_clash,
    "case": within_case,
    "cut": within_cut,
}


def books_within(checking, book):
    """The books straight in a book, each with the literals behind the path for it; None where it is no book itself."""
    word = word_of(book)
    if word not in LENGTHS or len(book) != LENGTHS[word]:
        return None
    deed = DEEDS[word]
    return deed(checking, book)


def check_told(names, told):
    """Refuses told statements that are none."""
    if not isinstance(told, (tuple, list)):
        raise BadStatement("told statements are a tuple")
    for statement in told:
        check_statement(names, statement)


def lets_by(names, told, book):
    """Whether a thing is a book for the told statements."""
    check_told(names, told)
    checking = Checking(names, told)
    # Books may stand deeper in one another than calls may, so those that wait are kept here, with the lengths
    # of the paths to them.
    waiting = [(0, (), book)]
    while waiting:
        many, literals, part = waiting.pop()
        checking.go_to(many, literals)
        within = books_within(checking, part)
        if within is None:
            return False
        many = checking.tellings.many_told()
        waiting.extend([(many, behind, inner) for inner, behind in within])
    return True
