"""Ledgers: lists of steps, of which those that an end needs become a clash.

A ledger is a list of steps that cite one another by their numbers in it; its entries are
steps that were shown on the way, most of which an end needs not.
"""

CITING = {"told": (), "bound": (), "both": (1, 2), "apart": (1,), "round": (1,), "hit": (2,), "miss": (2,),
          "like": (), "chain": (), "sum": (), "end": (1, 2)}


def cites_of(step):
    """The numbers of steps that a step cites, as a list, None where nothing is cited."""
    if step[0] == "sum":
        return [number for number, weight in step[1]]
    if step[0] == "chain":
        return list(step[1])
    if step[0] == "like":
        return list(step[3])
    return [step[place] for place in CITING[step[0]] if place < len(step)]


def renumbered(step, numbers):
    """A step that cites by other numbers, as a dict tells them; it has None for None."""
    if step[0] == "sum":
        return ("sum", tuple([(numbers[number], weight) for number, weight in step[1]]))
    if step[0] == "chain":
        return ("chain", tuple([numbers[number] for number in step[1]])) + step[2:]
    if step[0] == "like":
        return step[:3] + (tuple([numbers[number] for number in step[3]]),)
    places = CITING[step[0]]
    return tuple([numbers[part] if place in places else part for place, part in enumerate(step)])


def steps_to(ledger, end):
    """The steps of a clash: those of a ledger that an end needs, and the end."""
    needed = {number: True for number in cites_of(end)}
    for number in reversed(range(len(ledger))):
        if number in needed:
            needed.update({cite: True for cite in cites_of(ledger[number])})
    numbers = {None: None}
    steps = []
    for number, step in enumerate(ledger):
        if number in needed:
            numbers[number] = len(steps)
            steps.append(renumbered(step, numbers))
    return tuple(steps) + (renumbered(end, numbers),)
