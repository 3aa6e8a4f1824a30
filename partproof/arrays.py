"""Arrays: reads of puts, and what they are."""

from partproof.numbering import each_once


def is_read_of_put(term):
    """Whether a term is a read of which the array is a put."""
    return term[0] == "read" and term[1][0] == "put"


def hit(read):
    """What a read of a put is where the two places are equal."""
    return read[1][3]


def miss(read):
    """What a read of a put is where the two places are not equal."""
    return ("read", read[1][1], read[2])


def need(read):
    """The atom that a read's place and its put's are the same."""
    return ("same", read[2], read[1][2])


def reads_of_puts(terms):
    """The reads of puts of a list of terms, each ahead of its misses that are such reads, too; each once."""
    reads = []
    for term in terms:
        while is_read_of_put(term):
            reads.append(term)
            term = miss(term)
    return each_once(reads)
