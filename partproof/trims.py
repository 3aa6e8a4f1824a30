"""Books as a search keeps them, written out.

In these, a case is a tuple (case, atom, yes, no), the atom known by its number, and a cut is a tuple
(cut, (name, number, low atom, high atom), low, high) with the numbers of the atoms of its two sides.
Where a case's atom stands on the way already, one of its two books alone is needed.
"""


def written_out(book, atoms):
    """A book, with the atoms of a list in the place of their numbers."""
    # For each atom the signs with which it stands on the way, the first one first.
    signs = {}
    finished = []
    # Books may stand deeper in one another than calls may, so what is still to be done waits here.
    waiting = [("book", book)]
    while waiting:
        word, thing = waiting.pop()
        if word == "sign":
            signs.setdefault(thing[0], []).append(thing[1])
        elif word == "unsign":
            signs[thing].pop()
        elif word == "head":
            second, first = finished.pop(), finished.pop()
            finished.append(thing + (first, second))
        elif thing[0] == "case" and signs.get(thing[1]):
            waiting.append(("book", thing[2] if signs[thing[1]][0] else thing[3]))
        elif thing[0] in ("case", "cut"):
            waiting.extend(deeds_of(thing, atoms))
        else:
            finished.append(thing)
    return finished[0]


def deeds_of(book, atoms):
    """What is to be done to write a case or a cut out, the last one first."""
    if book[0] == "case":
        head = ("case", atoms[book[1]])
        sides = ((book[1], True), (book[1], False))
    else:
        name, number, low, high = book[1]
        head = ("cut", name, number)
        sides = ((low, True), (high, True))
    deeds = [("head", head)]
    for (atom, sign), inner in ((sides[1], book[3]), (sides[0], book[2])):
        deeds.extend([("unsign", atom), ("book", inner), ("sign", (atom, sign))])
    return deeds
