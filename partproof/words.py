"""Words: texts of terms and statements, as words with a blank between."""

from partproof.errors import NoText
from partproof.fractions import common_divisor
from partproof.names import is_name
from partproof.numbering import terms_in
from partproof.statements import ATOM_WORDS

FIGURES = "0123456789"
MOST_FIGURES = 2000
# For each word behind a bracket: the sort of what stands in it, how many at the least and, where that is bounded,
# at the most.
SORTS = {
    "weigh": ("term", 1, 1),
    "plus": ("term", 0, None),
    "call": ("term", 1, None),
    "read": ("term", 2, 2),
    "put": ("term", 3, 3),
    "atmost": ("term", 2, 2),
    "below": ("term", 2, 2),
    "same": ("term", 2, 2),
    "not": ("statement", 1, 1),
    "and": ("statement", 0, None),
    "or": ("statement", 0, None),
}
TERM_WORDS = ("weigh", "plus", "call", "read", "put")


def is_figures(word, most=MOST_FIGURES):
    """Whether a word is a whole number from 0 on, of so many figures at the most, without a nought ahead."""
    if not 1 <= len(word) <= most or not all([sign in FIGURES for sign in word]):
        return False
    return word == "0" or word[0] != "0"


def figures_of(word, most=MOST_FIGURES):
    """The whole number from 0 on that a word is."""
    if not is_figures(word, most):
        raise NoText("there is no number of this form")
    return int(word)


def whole_of(word):
    """The whole number that a word is."""
    if word.startswith("-"):
        told = figures_of(word[1:])
        if told == 0:
            raise NoText("0 has no sign")
        return -told
    return figures_of(word)


def fraction_of(word):
    """The fraction that a word is."""
    top, stroke, bottom = word.partition("/")
    if stroke == "":
        return (whole_of(top), 1)
    told = (whole_of(top), figures_of(bottom))
    if told[1] < 2 or common_divisor(told[0], told[1]) != 1:
        raise NoText("a number is written in lowest terms, and without a bottom of 1")
    return told


def name_of(word):
    """The name that a word is."""
    if not is_name(word):
        raise NoText("there is no name of this form")
    return word


def shown_fraction(number):
    """A fraction as a word."""
    return f"{number[0]}" if number[1] == 1 else f"{number[0]}/{number[1]}"


def shown_term(term):
    """A term as a text."""
    word = term[0]
    if word == "number":
        return shown_fraction(term[1])
    if word == "unknown":
        return term[1]
    words = ["(", word]
    if word == "weigh":
        words.append(shown_fraction(term[1]))
    elif word == "call":
        words.append(term[1])
    words.extend([shown_term(part) for part in terms_in(term)])
    return " ".join(words + [")"])


def shown_statement(statement):
    """A statement as a text."""
    word = statement[0]
    if word in ATOM_WORDS:
        parts = [shown_term(part) for part in statement[1:]]
    elif word == "not":
        parts = [shown_statement(statement[1])]
    else:
        parts = [shown_statement(part) for part in statement[1]]
    return " ".join(["(", word] + parts + [")"])


class Reader:
    """The words of a text, read one behind another; whatever else it is, it is refused."""

    def __init__(self, text):
        if not isinstance(text, str):
            raise NoText("it is no text")
        self.words = text.split(" ")
        self.many_read = 0

    def is_over(self):
        """Whether all words are read."""
        return self.many_read == len(self.words)

    def following(self):
        """The word that comes next; it is read by this."""
        if self.is_over():
            raise NoText("words lack")
        self.many_read += 1
        return self.words[self.many_read - 1]

    def ended(self, thing):
        """A thing, where all words are read."""
        if not self.is_over():
            raise NoText("there are words too many")
        return thing

    def item(self, sort):
        """What is written next, a term, a statement or an atom."""
        # What stands in brackets may stand deeper than calls may, so the brackets that are not closed yet are kept.
        begun = []
        while True:
            told = self.piece(begun)
            if told is None:
                continue
            if begun:
                begun[-1][2].append(told)
            elif is_of_sort(told, sort):
                return told[1]
            else:
                raise NoText("something else is asked here")

    def piece(self, begun):
        """Reads a word, and with some those that belong to it; tells what it makes whole, or None."""
        word = self.following()
        if word == "(":
            begun.append(self.head())
            return None
        if word == ")":
            if not begun:
                raise NoText("a bracket is closed that was not begun")
            return made_whole(begun.pop())
        if is_name(word):
            return ("term", ("unknown", word))
        return ("term", ("number", fraction_of(word)))

    def head(self):
        """What stands ahead in brackets: the word, what of its own it bears, and a list for what stands in them."""
        word = self.following()
        if word not in SORTS:
            raise NoText("there is no such word")
        own = ()
        if word == "weigh":
            own = (fraction_of(self.following()),)
        elif word == "call":
            own = (name_of(self.following()),)
        return (word, own, [])


def is_of_sort(told, sort):
    """Whether a tuple of a sort and a thing is of a sort that is asked."""
    if sort == "atom":
        return told[0] == "statement" and told[1][0] in ATOM_WORDS
    return told[0] == sort


def made_whole(begun):
    """A tuple of a sort, term or statement, and what brackets that are closed now make."""
    word, own, parts = begun
    sort, least, most = SORTS[word]
    if len(parts) < least or most is not None and len(parts) > most or any([part[0] != sort for part in parts]):
        raise NoText("something else is to stand in these brackets")
    things = tuple([part[1] for part in parts])
    # Where there may be any number of parts, they are a tuple of their own.
    if most is None:
        things = (things,)
    return ("term" if word in TERM_WORDS else "statement", (word,) + own + things)
