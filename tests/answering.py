"""What settle and answer tell, reckoned."""

from partproof.arrays import need, reads_of_puts
from partproof.books import lets_by
from partproof.statements import terms_of
from partproof.steps import is_clash
from partproof.worlds import World, holds, is_world


def terms_of_literals(literals):
    return [term for atom, sign in literals for term in terms_of(atom)]


def check_outcome(test, names, literals, outcome):
    """Whether what is told of literals is right, as far as it speaks for itself."""
    test.assertIsInstance(outcome, tuple)
    word = outcome[0]
    if word == "clash":
        test.assertEqual(len(outcome), 2)
        test.assertTrue(is_clash(names, literals, outcome[1]))
    elif word == "world":
        test.assertEqual(len(outcome), 2)
        test.assertTrue(is_world(names, outcome[1]))
        for atom, sign in literals:
            test.assertIs(holds(outcome[1], atom), sign)
    elif word == "case":
        test.assertEqual(len(outcome), 2)
        test.assertIn(outcome[1], [need(read) for read in reads_of_puts(terms_of_literals(literals))])
        test.assertNotIn(outcome[1], [atom for atom, sign in literals])
    else:
        word, name, number = outcome
        test.assertEqual(word, "cut")
        low, high = names.bounds(name)
        test.assertIs(type(number), int)
        test.assertTrue(low <= number < high)
    if not names.all_wholes() and not reads_of_puts(terms_of_literals(literals)):
        test.assertIn(word, ("clash", "world"))


def check_answer(test, names, told, found):
    """Whether an answer is right; tells its sort."""
    if isinstance(found, World):
        test.assertTrue(is_world(names, found))
        for statement in told:
            test.assertIs(holds(found, statement), True)
        return "world"
    test.assertIs(lets_by(names, told, found), True)
    return "book"


def fields_of(world):
    return (world.numbers, world.things, world.functions, world.arrays)


def plain_of(thing):
    """What is told, to be compared: worlds as their fields."""
    if isinstance(thing, World):
        return fields_of(thing)
    return tuple([plain_of(part) for part in thing]) if isinstance(thing, tuple) else thing


def spoil(world):
    """Changes whatever can be changed in a world."""
    for dicts in fields_of(world):
        for pair in dicts.values():
            if isinstance(pair, tuple) and isinstance(pair[0], dict):
                pair[0].clear()
                pair[0]["spoilt"] = 1
        dicts.clear()
        dicts["spoilt"] = 1
