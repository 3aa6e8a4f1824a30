"""Numbers for terms."""


def terms_in(term):
    """The terms that stand straight in a term, as a tuple."""
    word = term[0]
    if word == "plus":
        return term[1]
    if word == "call":
        return term[2]
    if word == "weigh":
        return term[2:]
    if word in ("read", "put"):
        return term[1:]
    return ()


def label_of(term):
    """What a term has besides the terms in it: its word, and a fraction or a name where there is one."""
    if term[0] in ("plus", "read", "put"):
        return term[:1]
    return term[:2]


class Numbering:
    """Gives each unlike term a number, the terms in it ahead of it.

    Terms stand deeper in one another than the key of a dict may, so a term is known
    by its label and the numbers of the terms in it.
    """

    def __init__(self):
        self.terms = []
        self.numbers = {}

    def number(self, term):
        """The number of a term, a new one where the like has not come yet."""
        key = (label_of(term), tuple([self.number(part) for part in terms_in(term)]))
        if key not in self.numbers:
            self.numbers[key] = len(self.terms)
            self.terms.append(term)
        return self.numbers[key]


def each_once(terms):
    """The terms of a list, each once, where it stands first."""
    numbering = Numbering()
    unlike = {}
    for term in terms:
        unlike.setdefault(numbering.number(term), term)
    return list(unlike.values())
