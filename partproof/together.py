"""The parts together: what comes of literals."""

from partproof.arrays import need
from partproof.fractions import ONE, floor_of
from partproof.grounds import Ground
from partproof.making import world_of
from partproof.states import State


def settle(names, literals):
    """What comes of literals: a clash, a world, a case or a cut."""
    state = State(Ground(names))
    for atom, sign in literals:
        state.tell(atom, sign)
    steps = state.close()
    return outcome(state) if steps is None else ("clash", steps)


def outcome(state):
    """What comes of a state in which nothing is left to tell: a world, a case or a cut."""
    if not state.undecided and open_wholes(state):
        tried = tried_wholes(state)
        if tried is None:
            return best_cut(state)
        state = tried
    for number in state.undecided:
        return ("case", need(state.ground.term_of(number)))
    return ("world", world_of(state))


def open_wholes(state):
    """The wholes that are wanted and not forced to have one value, as numbers of their terms."""
    return [number for number in state.ranges if state.settled_value(number) is None]


def tried_wholes(state):
    """A state of the same and a value for each whole, where simple trying comes to one, else None."""
    while True:
        wholes = open_wholes(state)
        if not wholes:
            return state
        state = tried_values(state, wholes[0])
        if state is None:
            return None


def tried_values(state, number):
    """A state of the same and a value for a whole, one of the two that are nearest by a point; None if both clash."""
    low = floor_of(state.holding.table.point()[number])
    for told in (low, low + 1):
        tried = state.copied()
        # What is only tried is never shown, so it has no step.
        tried.holding.hold("equal", ((-told, 1), {number: ONE}), None)
        if tried.close() is None:
            return tried
    return None


def best_cut(state):
    """A cut through the middle of the narrowest range of a whole that is not settled."""
    ranges = [(state.ranges[number], number) for number in open_wholes(state)]
    (low, high), number = min(ranges, key=lambda row: row[0][1] - row[0][0])
    return ("cut", state.ground.term_of(number)[1], (low + high) // 2)
