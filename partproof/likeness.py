"""Likeness: pairs of terms that may be alike, chains of links, classes."""

from partproof.numbering import Numbering, each_once


def family_of(term):
    """What a call or a read of an unknown array shares with those that may be like it; None of all else."""
    if term[0] == "call":
        return ("call", term[1])
    if term[0] == "read" and term[1][0] == "unknown":
        return ("read", term[1][1])
    return None


def places_of(term):
    """The terms in a call or a read on which its value hangs, as a tuple."""
    return term[2] if term[0] == "call" else term[2:]


def pairs_of(terms):
    """All pairs of unlike calls of one function, and of unlike reads of one unknown array."""
    unlike = [(family_of(term), term) for term in each_once(terms) if family_of(term) is not None]
    pairs = []
    for at, (family, one) in enumerate(unlike):
        pairs.extend([(one, other) for like, other in unlike[at + 1:] if like == family])
    return pairs


def ways_of(numbering, links):
    """As ways_of_numbers, of links of terms."""
    return ways_of_numbers([(mark, numbering.number(one), numbering.number(other)) for mark, one, other in links])


def ways_of_numbers(links):
    """For each number in links the tuples (mark, number) of the numbers to which a link leads."""
    ways = {}
    for mark, one, other in links:
        ways.setdefault(one, []).append((mark, other))
        ways.setdefault(other, []).append((mark, one))
    return ways


def reached_from(ways, start):
    """All numbers to which a chain leads, the nearest first, each with the tuple (mark, number) by which one comes."""
    reached = {start: None}
    waiting = [start]
    at = 0
    while at < len(waiting):
        here = waiting[at]
        for mark, end in ways.get(here, []):
            if end not in reached:
                reached[end] = (mark, here)
                waiting.append(end)
        at += 1
    return reached


def chain(links, one, other):
    """The marks of links by which one comes from one term to the other, or None."""
    numbering = Numbering()
    return marks_between(ways_of(numbering, links), numbering.number(one), numbering.number(other))


def marks_between(ways, start, end):
    """The marks by which one comes from one number to another, or None."""
    reached = reached_from(ways, start)
    if end not in reached:
        return None
    marks = []
    at = end
    while at != start:
        mark, at = reached[at]
        marks.append(mark)
    marks.reverse()
    return marks


def classes(terms, links):
    """For each term of a list the first term of the list to which a chain leads."""
    numbering = Numbering()
    ways = ways_of(numbering, links)
    first = {}
    for term in terms:
        if numbering.number(term) not in first:
            first.update({number: term for number in reached_from(ways, numbering.number(term))})
    return {term: first[numbering.number(term)] for term in terms}
