"""Least clashes: told statements that no world makes true, but any of which may be left out."""

from partproof.books import check_told
from partproof.cases import answer
from partproof.worlds import World


def least_clash(names, told):
    """The numbers of told statements that clash, each of them needed for it; None where a world makes all true."""
    check_told(names, told)
    left = clashing(names, told, list(range(len(told))))
    if left is None:
        return None
    needed = []
    while left:
        fewer = clashing(names, told, needed + left[1:])
        if fewer is None:
            needed.append(left[0])
            left = left[1:]
        else:
            left = [number for number in left[1:] if number in fewer]
    return needed


def clashing(names, told, numbers):
    """Those of some told statements that a book of them needs, as a sorted list; None where there is a world."""
    found = answer(names, tuple([told[number] for number in numbers]))
    if isinstance(found, World):
        return None
    return sorted({numbers[place] for place in plain_numbers(found)})


def plain_numbers(book):
    """The numbers of told statements that are false somewhere in a book."""
    numbers = []
    waiting = [book]
    while waiting:
        part = waiting.pop()
        if part[0] == "plain":
            numbers.append(part[1])
        elif part[0] == "case":
            waiting.extend(part[2:])
        elif part[0] == "cut":
            waiting.extend(part[3:])
    return numbers
