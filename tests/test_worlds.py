"""Points 2, 9 and 10: worlds, values, what holds in them."""

import unittest

from partproof.fractions import is_fraction
from partproof.names import Names
from partproof.worlds import World, holds, is_world, value
from samples import (A, B, C, D, HALF, K, M, ONE, X, Y, ZERO, call, deep, fields, names, number, other_kinds, plus, put,
                     read, weigh, world)

BARE = Names([], [], [], [], [])


def changed(place, name, thing):
    """A world of the sample fields but for one thing in one dict."""
    own = fields()
    own[place][name] = thing
    return World(*own)


class TestIsWorld(unittest.TestCase):
    def no_world(self, thing, of=None):
        self.assertIs(is_world(of or names(), thing), False)

    def test_the_right_one(self):
        self.assertIs(is_world(names(), world()), True)
        self.assertIs(is_world(BARE, World({}, {}, {}, {})), True)

    def test_other_right_ones(self):
        for good in [changed(0, "x", (-(10 ** 59), 7)), changed(0, "k", (0, 1)), changed(0, "m", (3, 1)),
                     changed(0, "m", (0, 1)), changed(1, "c", 10 ** 59), changed(1, "d", 4), changed(2, "f", ({}, (1, 9))),
                     changed(2, "g", ({}, 0)), changed(2, "g", ({(0, (0, 1)): 0}, 0)), changed(3, "a", ({}, (1, 2))),
                     changed(3, "b", ({(5, 7): (5, 7)}, (-1, 2)))]:
            self.assertIs(is_world(names(), good), True)

    def test_fields_are_as_handed_in(self):
        own = world()
        self.assertEqual([own.numbers, own.things, own.functions, own.arrays], fields())

    def test_a_name_lacks(self):
        for place, part in enumerate(fields()):
            for name in part:
                own = fields()
                del own[place][name]
                self.no_world(World(*own))

    def test_a_name_too_many(self):
        for place, part in enumerate(fields()):
            for name in ["z", "", "X", 1, None, True, ("x",), b"x"] + [key for some in fields() for key in some]:
                if name not in part:
                    own = fields()
                    own[place][name] = list(part.values())[0]
                    self.no_world(World(*own))

    def test_another_name_in_its_place(self):
        for place, part in enumerate(fields()):
            for name in part:
                for other in ["z", 1, None, (name,), name.upper()]:
                    own = fields()
                    own[place][other] = own[place].pop(name)
                    self.no_world(World(*own))

    def test_names_of_other_dicts(self):
        numbers, things, functions, arrays = fields()
        self.no_world(World(numbers, things, arrays, functions))
        self.no_world(World(things, numbers, functions, arrays))
        self.no_world(world(), BARE)
        self.no_world(World({}, {}, {}, {}))

    def test_numbers_of_other_kinds(self):
        for name in fields()[0]:
            for thing in other_kinds() + [5, (2, 2), (0, 2), (1, 0), (1, -1), (True, 1), (1, True), (1, 1, 1), [1, 1],
                                          "1", ("1", 1), ((1, 1), 1)]:
                if not is_fraction(thing):
                    self.no_world(changed(0, name, thing))

    def test_wholes_that_are_not_whole_or_out_of_bounds(self):
        for thing in [(1, 2), (9, 2), (11, 3), (-1, 1), (6, 1), (10 ** 59, 1), (-(10 ** 59), 1), (1, 10 ** 59)]:
            self.no_world(changed(0, "k", thing))
        for thing in [(1, 2), (-1, 2), (-4, 1), (4, 1), (-7, 2)]:
            self.no_world(changed(0, "m", thing))

    def test_things_of_other_kinds(self):
        for name in fields()[1]:
            for thing in [None, True, False, "", "1", (), (1, 1), [1], {}, object(), b"1"]:
                self.no_world(changed(1, name, thing))

    def test_tables_that_are_none(self):
        for place in (2, 3):
            for name, (table, rest) in fields()[place].items():
                for thing in other_kinds() + [(table,), (table, rest, rest), [table, rest], (rest, table),
                                              ([], rest), ((), rest), (None, rest), ("", rest),
                                              (list(table.items()), rest), (True, rest), table, rest]:
                    self.no_world(changed(place, name, thing))

    def test_rests_of_other_kinds(self):
        for place in (2, 3):
            for name, (table, rest) in fields()[place].items():
                wrong = (4, True, None) if isinstance(rest, tuple) else ((4, 1), True, None)
                for thing in wrong + ("", [], {}, (2, 2), (1, 0), (True, 1), [1, 1], (1,), object(), table):
                    self.no_world(changed(place, name, (table, thing)))

    def test_keys_of_functions(self):
        for key in [(), ((1, 2), (1, 2)), (1, 2), (1,), ((2, 2),), ((True, 1),), (True,), (None,), ("x",), "x", 1,
                    None, True, ((1, 2),) * 3, (((1, 2),),)]:
            self.no_world(changed(2, "f", ({key: (1, 1)}, (0, 1))))
            self.no_world(changed(2, "f", ({((5, 1),): (1, 1), key: (1, 1)}, (0, 1))))
        for key in [((1, 1), 4), (4, 4), ((1, 1), (1, 1)), (4,), (4, (1, 1), 4), (True, (1, 1)), (4, (0, 2)), "ab"]:
            self.no_world(changed(2, "g", ({key: 1}, 0)))
        for key in [(4,), (4, 4), (4, 4, 4), (4, (1, 1), 4), (4, 4, (2, 4)), (4, False, (1, 1)), (4, 4, (1, 1), 4)]:
            self.no_world(changed(2, "h", ({key: (1, 1)}, (0, 1))))

    def test_what_tables_of_functions_have(self):
        for thing in [1, True, None, "", (2, 2), (1, True), [1, 1], (), {}]:
            self.no_world(changed(2, "f", ({((1, 1),): thing}, (0, 1))))
        for thing in [(1, 1), True, None, "", [], {}, ()]:
            self.no_world(changed(2, "p", ({(1,): thing}, 0)))

    def test_tables_of_arrays(self):
        for key in [1, (2, 2), ((1, 1),), (), (1,), (True, 1), (1, True), None, "a", True, (1, 1, 1)]:
            self.no_world(changed(3, "a", ({key: (1, 1)}, (0, 1))))
        for thing in [1, (2, 2), ((1, 1),), (), (True, 1), None, "a", True, [1, 1], {}]:
            self.no_world(changed(3, "a", ({(1, 1): thing}, (0, 1))))

    def test_a_field_that_is_no_dict(self):
        for place in range(4):
            for thing in other_kinds():
                own = fields()
                own[place] = thing
                self.no_world(World(*own))
                if thing != {}:
                    bare = [{}, {}, {}, {}]
                    bare[place] = thing
                    self.no_world(World(*bare), BARE)

    def test_things_that_are_no_world(self):
        for thing in other_kinds() + [fields(), tuple(fields()), fields()[0], World]:
            self.no_world(thing)
            self.no_world(thing, BARE)

    def test_made_of_whatever_is_handed_in(self):
        for thing in other_kinds():
            own = World(thing, thing, thing, thing)
            for field in [own.numbers, own.things, own.functions, own.arrays]:
                self.assertEqual(field, thing)
            self.no_world(own)
        ring = []
        ring.append(ring)
        loop = {}
        loop["x"] = (loop, loop)
        self.no_world(World(ring, loop, loop, ring))
        nest = ()
        for turn in range(9000):
            nest = (nest,)
        self.no_world(World(nest, nest, nest, nest))
        self.no_world(changed(2, "f", nest))


class TestOwned(unittest.TestCase):
    def test_what_was_handed_in_changes_nothing_later(self):
        handed = fields()
        own = World(*handed)
        self.assertEqual(handed, fields())
        handed[0]["x"] = (9, 1)
        handed[0]["z"] = None
        handed[1]["c"] = 0
        del handed[1]["d"]
        handed[2]["f"][0][((1, 2),)] = (99, 1)
        handed[2]["p"][0][(4,)] = "no value"
        handed[2].clear()
        handed[3]["a"][0].clear()
        handed[3]["b"][0][(1, 1)] = (99, 1)
        handed[3]["b"] = None
        self.assertEqual([own.numbers, own.things, own.functions, own.arrays], fields())
        self.assertIs(is_world(names(), own), True)
        self.assertEqual(value(own, call("f", X)), (2, 1))
        self.assertEqual(value(own, read(A, ZERO)), (-1, 2))

    def test_lists_in_the_place_of_dicts_are_copied_too(self):
        row, pair = [1], [{}, (0, 1)]
        own = World(row, row, {"f": pair}, {"a": pair})
        row.append(2)
        pair[0][1] = 2
        pair.append(3)
        self.assertEqual([own.numbers, own.things, own.functions, own.arrays],
                         [[1], [1], {"f": [{}, (0, 1)]}, {"a": [{}, (0, 1)]}])

    def test_two_worlds_share_nothing(self):
        handed = fields()
        one, other = World(*handed), World(*handed)
        one.arrays["a"][0].clear()
        one.numbers.clear()
        self.assertEqual([other.numbers, other.arrays], [fields()[0], fields()[3]])

    def test_asking_changes_nothing(self):
        own, of = world(), names()
        term = read(put(put(A, X, Y), ZERO, K), X)
        for turn in range(3):
            self.assertIs(is_world(of, own), True)
            self.assertEqual(value(own, term), (-3, 1))
            self.assertIs(holds(own, ("same", term, Y)), True)
        self.assertEqual([own.numbers, own.things, own.functions, own.arrays], fields())


class TestValue(unittest.TestCase):
    def told(self, term, wanted):
        self.assertEqual(value(world(), term), wanted)

    def test_numbers_and_unknowns(self):
        for top, bottom in [(0, 1), (-7, 3), (10 ** 59, 1), (1, 10 ** 59)]:
            self.told(number(top, bottom), (top, bottom))
        for term, wanted in [(X, (1, 2)), (Y, (-3, 1)), (K, (5, 1)), (M, (-3, 1)), (C, 4), (D, -7)]:
            self.told(term, wanted)

    def test_weights(self):
        for top, bottom, wanted in [(2, 1, (1, 1)), (0, 1, (0, 1)), (-1, 3, (-1, 6)), (1, 1, (1, 2)), (4, 3, (2, 3))]:
            self.told(weigh(top, bottom, X), wanted)

    def test_sums(self):
        self.told(plus(), (0, 1))
        self.told(plus(X), (1, 2))
        self.told(plus(X, X), (1, 1))
        self.told(plus(X, Y, K, number(1, 3)), (17, 6))
        self.told(plus(X, weigh(-1, 1, X)), (0, 1))
        self.told(plus(number(1, 6), number(1, 3)), (1, 2))
        self.told(plus(plus(), plus(plus(), ONE)), (1, 1))

    def test_calls(self):
        self.told(call("f", X), (2, 1))
        self.told(call("f", HALF), (2, 1))
        self.told(call("f", call("f", X)), (7, 3))
        self.told(call("f", Y), (0, 1))
        self.told(call("g", C, X), 9)
        self.told(call("g", D, ZERO), 4)
        self.told(call("g", D, plus()), 4)
        self.told(call("g", D, X), -1)
        self.told(call("g", call("g", D, ZERO), X), 9)
        self.told(call("h", C, D, ONE), (1, 3))
        self.told(call("h", D, C, ONE), (5, 1))
        self.told(call("h", call("p", D), D, plus(X, HALF)), (1, 3))
        self.told(call("p", D), 4)

    def test_reads(self):
        self.told(read(A, X), (8, 1))
        self.told(read(A, plus()), (-1, 2))
        self.told(read(A, K), (3, 1))
        self.told(read(B, X), (0, 1))
        self.told(read(A, read(A, read(B, X))), (3, 1))
        self.told(read(A, weigh(-1, 1, read(A, read(B, X)))), (8, 1))

    def test_reads_of_puts(self):
        self.told(read(put(A, K, Y), K), (-3, 1))
        self.told(read(put(A, K, Y), number(5)), (-3, 1))
        self.told(read(put(A, X, Y), HALF), (-3, 1))
        self.told(read(put(A, K, Y), X), (8, 1))
        self.told(read(put(A, K, Y), number(77)), (3, 1))
        self.told(read(put(B, ZERO, X), ONE), (0, 1))

    def test_reads_of_puts_of_puts(self):
        twice = put(put(A, K, Y), plus(number(4), ONE), HALF)
        self.told(read(twice, K), (1, 2))
        self.told(read(put(twice, K, ONE), K), (1, 1))
        self.told(read(put(twice, ZERO, ONE), K), (1, 2))
        self.told(read(put(twice, ZERO, ONE), ZERO), (1, 1))
        self.told(read(put(twice, ZERO, ONE), X), (8, 1))
        self.told(read(put(put(B, ONE, X), Y, ONE), ONE), (1, 2))
        self.told(read(put(put(A, X, read(A, X)), Y, read(put(A, ZERO, K), ZERO)), Y), (5, 1))
        self.told(read(deep(lambda term: put(term, read(term, ZERO), ONE), A, 5), number(-1, 2)), (1, 1))

    def test_tables_are_not_changed_by_puts(self):
        own = world()
        value(own, read(put(A, K, Y), K))
        self.assertEqual(value(own, read(A, K)), (3, 1))

    def test_a_told_array_is_the_askers_own(self):
        own = world()
        value(own, A)[0].clear()
        value(own, put(A, X, X))[0].clear()
        self.assertEqual(own.arrays, fields()[3])

    def test_twelve_deep(self):
        self.told(deep(lambda term: weigh(2, 1, term), X, 12), (2 ** 10, 1))
        self.told(deep(lambda term: plus(term, ONE), ZERO, 12), (11, 1))


class TestHolds(unittest.TestCase):
    def check(self, statement, wanted):
        self.assertIs(holds(world(), statement), wanted)
        self.assertIs(holds(world(), ("not", statement)), not wanted)
        self.assertIs(holds(world(), ("and", (statement,))), wanted)
        self.assertIs(holds(world(), ("or", (statement,))), wanted)

    def test_atoms(self):
        for one, other, sign in [(Y, X, -1), (X, HALF, 0), (K, X, 1), (Y, M, 0), (number(1, 3), X, -1),
                                 (number(-1, 3), number(-1, 2), 1), (plus(), ZERO, 0)]:
            self.check(("atmost", one, other), sign <= 0)
            self.check(("below", one, other), sign < 0)
            self.check(("same", one, other), sign == 0)

    def test_things(self):
        self.check(("same", C, D), False)
        self.check(("same", C, C), True)
        self.check(("same", call("p", D), C), True)
        self.check(("same", call("g", C, X), C), False)

    def test_of_none(self):
        self.check(("and", ()), True)
        self.check(("or", ()), False)

    def test_and_or_not(self):
        yes, no = ("atmost", X, X), ("below", X, X)
        for one in (yes, no):
            for other in (yes, no):
                self.check(("and", (one, other)), (one, other) == (yes, yes))
                self.check(("or", (one, other)), (one, other) != (no, no))
        self.check(("and", (yes, yes, no)), False)
        self.check(("or", (no, no, yes)), True)
        self.check(("or", (("and", (yes, ("not", no))), no)), True)
        self.check(deep(lambda part: ("not", part), ("and", ()), 12), False)


if __name__ == "__main__":
    unittest.main()
