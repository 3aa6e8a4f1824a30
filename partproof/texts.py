"""Texts of terms, statements, names and books, and what they are read to."""

from partproof.errors import NoText
from partproof.names import Names
from partproof.rows import shown_step, spoken_of, step_of
from partproof.statements import check_statement
from partproof.terms import kind_of
from partproof.words import Reader, figures_of, name_of, shown_statement, shown_term, whole_of

# The first words of the rows of names, in their order.
SORTS = ("number", "whole", "thing", "function", "array")


def show_term(term):
    """A term as a text."""
    return shown_term(term)


def show_statement(statement):
    """A statement as a text."""
    return shown_statement(statement)


def read_term(names, text):
    """The term of the names that a text is."""
    reader = Reader(text)
    term = reader.ended(reader.item("term"))
    kind_of(names, term)
    return term


def read_statement(names, text):
    """The statement of the names that a text is."""
    reader = Reader(text)
    statement = reader.ended(reader.item("statement"))
    check_statement(names, statement)
    return statement


def show_names(names):
    """Names as a text."""
    rows = [f"number {name}" for name in names.all_numbers()]
    rows.extend([f"whole {name} {low} {high}" for name, low, high in names.all_wholes()])
    rows.extend([f"thing {name}" for name in names.all_things()])
    for name, kinds, kind in names.all_functions():
        rows.append(" ".join(["function", name] + list(kinds) + ["gives", kind]))
    rows.extend([f"array {name}" for name in names.all_arrays()])
    return "\n".join(rows)


def read_names(text):
    """The names that a text is."""
    lists = {sort: [] for sort in SORTS}
    latest = 0
    for row in rows_of(text):
        words = row.split(" ")
        if words[0] not in SORTS or SORTS.index(words[0]) < latest:
            raise NoText("there is no such row, or not here")
        latest = SORTS.index(words[0])
        deed = NAMED[words[0]]
        lists[words[0]].append(deed(words[1:]))
    return Names(lists["number"], lists["whole"], lists["thing"], lists["function"], lists["array"])


def rows_of(text):
    """The rows of a text, none of the text without signs."""
    if not isinstance(text, str):
        raise NoText("it is no text")
    return [] if text == "" else text.split("\n")


def named_plainly(words):
    """The name that the words of a row are, but the first."""
    if len(words) != 1:
        raise NoText("a name stands alone here")
    return name_of(words[0])


def named_whole(words):
    """The name and bounds that the words of a row are, but the first."""
    if len(words) != 3:
        raise NoText("a whole has a name and two bounds")
    return (name_of(words[0]), whole_of(words[1]), whole_of(words[2]))


def named_function(words):
    """The name and kinds that the words of a row are, but the first."""
    if len(words) < 4 or words[-2] != "gives":
        raise NoText("a function has a name, kinds and what it gives")
    for kind in words[1:-2] + words[-1:]:
        if kind not in ("num", "thing"):
            raise NoText("there is no such kind")
    return (name_of(words[0]), tuple(words[1:-2]), words[-1])


NAMED = {
    "number": named_plainly,
    "whole": named_whole,
    "thing": named_plainly,
    "function": named_function,
    "array": named_plainly,
}


def show_book(book):
    """A book as a text."""
    rows = []
    # Books may stand deeper in one another than calls may.
    waiting = [book]
    while waiting:
        part = waiting.pop()
        if part[0] == "plain":
            rows.append(f"plain {part[1]}")
        elif part[0] == "clash":
            rows.append(f"clash {len(part[1])}")
            rows.extend([shown_step(step) for step in part[1]])
        elif part[0] == "case":
            rows.append(f"case {shown_statement(part[1])}")
            waiting.extend([part[3], part[2]])
        else:
            rows.append(f"cut {part[1]} {part[2]}")
            waiting.extend([part[4], part[3]])
    return "\n".join(rows)


def read_book(names, text):
    """The book that a text is, of terms and atoms of the names; it need not be let by."""
    heads = heads_of(rows_of(text))
    book = book_of(heads)
    for head in heads:
        check_head(names, head)
    return book


def heads_of(rows):
    """The books of rows, without those that stand in them."""
    heads = []
    at = 0
    while at < len(rows):
        reader = Reader(rows[at])
        word = reader.following()
        at += 1
        if word == "plain":
            heads.append(reader.ended(("plain", figures_of(reader.following()))))
        elif word == "case":
            heads.append(reader.ended(("case", reader.item("atom"))))
        elif word == "cut":
            heads.append(reader.ended(("cut", name_of(reader.following()), whole_of(reader.following()))))
        elif word == "clash":
            many = reader.ended(figures_of(reader.following()))
            if not 1 <= many <= len(rows) - at:
                raise NoText("a clash has one step or more, each a row")
            heads.append(("clash", tuple([step_of(row) for row in rows[at:at + many]])))
            at += many
        else:
            raise NoText("there is no such book")
    return heads


def book_of(heads):
    """The book that heads are, each ahead of those that stand in it."""
    books = []
    for head in reversed(heads):
        if head[0] in ("case", "cut"):
            if len(books) < 2:
                raise NoText("there are too few books")
            head = head + (books.pop(), books.pop())
        books.append(head)
    if len(books) != 1:
        raise NoText("there are no books, or too many")
    return books[0]


def check_head(names, head):
    """Refuses terms and atoms of a book, but those of the books in it, that are none of the names."""
    spoken = []
    if head[0] == "case":
        spoken.append(("atom", head[1]))
    elif head[0] == "clash":
        for step in head[1]:
            spoken.extend(spoken_of(step))
    for sort, thing in spoken:
        if sort == "term":
            kind_of(names, thing)
        else:
            check_statement(names, thing)
