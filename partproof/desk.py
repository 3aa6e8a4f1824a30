"""The desk: a house that is spoken to by lines of text."""

from partproof.books import lets_by
from partproof.errors import BadTerm, NoRow
from partproof.houses import House
from partproof.least import least_clash
from partproof.terms import kind_of
from partproof.texts import read_book, read_names, read_statement, read_term, show_book, show_statement
from partproof.words import figures_of, shown_fraction
from partproof.worlds import World, holds, value

MOST_FIGURES = 60


def shown_truth(truth):
    """A truth as a text."""
    return "yes" if truth else "no"


def say_names(desk, text):
    """A house of the names of a text."""
    desk.house = House(read_names(text))
    return "ok"


def say_tell(desk, text):
    """A statement is told."""
    desk.house.tell(read_statement(desk.house.names, text))
    return "ok"


def say_back(desk, text):
    """So many statements are taken back."""
    desk.house.back(figures_of(text, MOST_FIGURES))
    return "ok"


def say_told(desk, text):
    """The statements that stand."""
    return "\n".join([show_statement(statement) for statement in desk.house.told()])


def say_answer(desk, text):
    """The answer of the house."""
    found = desk.house.answer()
    return "world" if isinstance(found, World) else "book\n" + show_book(found)


def say_value(desk, text):
    """The value of a term in the world of the answer."""
    term = read_term(desk.house.names, text)
    kind = kind_of(desk.house.names, term)
    if kind == "array":
        raise BadTerm("an array has no value that is a number")
    found = desk.house.answer()
    if not isinstance(found, World):
        return "none"
    told = value(found, term)
    return shown_fraction(told if kind == "num" else (told, 1))


def say_holds(desk, text):
    """Whether a statement holds in the world of the answer."""
    statement = read_statement(desk.house.names, text)
    found = desk.house.answer()
    return shown_truth(holds(found, statement)) if isinstance(found, World) else "none"


def say_check(desk, text):
    """Whether a book is let by for the statements that stand."""
    book = read_book(desk.house.names, text)
    return shown_truth(lets_by(desk.house.names, tuple(desk.house.told()), book))


def say_clash(desk, text):
    """A least clash of the statements that stand."""
    numbers = least_clash(desk.house.names, tuple(desk.house.told()))
    return "none" if numbers is None else " ".join([str(number) for number in numbers])


DEEDS = {
    "names": say_names,
    "tell": say_tell,
    "back": say_back,
    "told": say_told,
    "answer": say_answer,
    "value": say_value,
    "holds": say_holds,
    "check": say_check,
    "clash": say_clash,
}
# What stands between a line's word and all else; where it is nothing, the line is the word alone.
SIGNS = {
    "names": "\n",
    "tell": " ",
    "back": " ",
    "told": "",
    "answer": "",
    "value": " ",
    "holds": " ",
    "check": "\n",
    "clash": "",
}


def word_ahead(line):
    """The word of a line that is written as one, else None."""
    for word, sign in SIGNS.items():
        if line.startswith(word + sign) and (sign != "" or line == word):
            return word
    return None


class Desk:
    """A house, at first none, and the lines that are said to it."""

    def __init__(self):
        self.house = None

    def say(self, line):
        """The answer to a line."""
        word = word_ahead(line) if isinstance(line, str) else None
        if word is None:
            raise NoRow("there is no such line")
        if self.house is None and word != "names":
            raise NoRow("there is no house yet")
        deed = DEEDS[word]
        return deed(self, line[len(word + SIGNS[word]):])
