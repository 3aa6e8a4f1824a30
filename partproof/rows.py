"""Rows: texts of the steps of clashes, each a row, and what they speak of."""

from partproof.errors import NoText
from partproof.words import Reader, figures_of, fraction_of, name_of, shown_fraction, shown_statement, shown_term

# What the parts of each step are, in their order.
PARTS = {
    "told": ("atom", "sign"),
    "bound": ("name", "end"),
    "sum": ("parts",),
    "both": ("number", "number"),
    "apart": ("cite", "term", "term"),
    "round": ("number",),
    "like": ("term", "term", "cites"),
    "chain": ("cites", "term", "term"),
    "hit": ("term", "cite"),
    "miss": ("term", "cite"),
    "end": ("number",),
}
ENDS = ("low", "high")


def shown_atom(atom):
    """An atom as words."""
    return shown_statement(atom)


def shown_place(term):
    """A term as words."""
    return shown_term(term)


def shown_sign(sign):
    """A sign as a word."""
    return "yes" if sign else "no"


def shown_number(number):
    """The number of a step as a word."""
    return str(number)


def shown_cite(cite):
    """A cite as a word."""
    return "-" if cite is None else str(cite)


def shown_cites(cites):
    """Cites as words in brackets."""
    return " ".join(["("] + [shown_cite(cite) for cite in cites] + [")"])


def shown_parts(parts):
    """The parts of a sum, number and weight by turns."""
    return " ".join([f"{number} {shown_fraction(weight)}" for number, weight in parts])


def shown_text(text):
    """A name, or which end of a whole's bounds."""
    return text


SHOWN = {
    "atom": shown_atom,
    "sign": shown_sign,
    "name": shown_text,
    "end": shown_text,
    "parts": shown_parts,
    "number": shown_number,
    "cite": shown_cite,
    "cites": shown_cites,
    "term": shown_place,
}


def shown_step(step):
    """A step as a row."""
    # An end has one number or two, all else as many parts as are listed.
    kinds = ("number",) * (len(step) - 1) if step[0] == "end" else PARTS[step[0]]
    words = [step[0]]
    for kind, part in zip(kinds, step[1:]):
        deed = SHOWN[kind]
        words.append(deed(part))
    return " ".join(words)


def read_atom(reader):
    """The atom that is written next."""
    return reader.item("atom")


def read_term(reader):
    """The term that is written next."""
    return reader.item("term")


def read_sign(reader):
    """The sign that is written next."""
    word = reader.following()
    if word not in ("yes", "no"):
        raise NoText("a sign is yes or no")
    return word == "yes"


def read_name(reader):
    """The name that is written next."""
    return name_of(reader.following())


def read_end(reader):
    """The end of a whole's bounds that is written next."""
    word = reader.following()
    if word not in ENDS:
        raise NoText("an end is low or high")
    return word


def read_number(reader):
    """The number of a step that is written next."""
    return figures_of(reader.following())


def cite_of(word):
    """The cite that a word is."""
    return None if word == "-" else figures_of(word)


def read_cite(reader):
    """The cite that is written next."""
    return cite_of(reader.following())


def read_cites(reader):
    """The cites in brackets that are written next."""
    words = [reader.following(), reader.following()]
    while words[-1] != ")":
        words.append(reader.following())
    if words[0] != "(" or len(words) < 3:
        raise NoText("cites are one or more, in brackets")
    return tuple([cite_of(word) for word in words[1:-1]])


def read_parts(reader):
    """The parts of a sum, to the end of the row."""
    parts = [read_part(reader)]
    while not reader.is_over():
        parts.append(read_part(reader))
    return tuple(parts)


def read_part(reader):
    """The part of a sum that is written next."""
    number = read_number(reader)
    return (number, fraction_of(reader.following()))


READ = {
    "atom": read_atom,
    "sign": read_sign,
    "name": read_name,
    "end": read_end,
    "parts": read_parts,
    "number": read_number,
    "cite": read_cite,
    "cites": read_cites,
    "term": read_term,
}


def step_of(row):
    """The step that a row is."""
    reader = Reader(row)
    word = reader.following()
    if word not in PARTS:
        raise NoText("there is no such step")
    step = [word]
    for kind in PARTS[word]:
        deed = READ[kind]
        step.append(deed(reader))
    # An end may have a second number.
    if word == "end" and not reader.is_over():
        step.append(read_number(reader))
    return reader.ended(tuple(step))


def spoken_of(step):
    """The terms and atoms of which a step speaks, as a list of tuples of a sort, term or atom, and a thing."""
    return [(kind, part) for kind, part in zip(PARTS[step[0]], step[1:]) if kind in ("term", "atom")]
