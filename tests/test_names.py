"""Points 2 and 4: names."""

import unittest

from partproof.errors import BadNames
from partproof.names import Names

NUMBERS = ["x", "y"]
WHOLES = [("k", 0, 5), ("m", -3, 3)]
THINGS = ["cat", "dog"]
FUNCTIONS = [("f", ("num",), "num"), ("g", ("thing", "num"), "thing"), ("h", ("thing", "thing", "num"), "num")]
ARRAYS = ["a", "b"]
FIVE = (NUMBERS, WHOLES, THINGS, FUNCTIONS, ARRAYS)

OTHER_KINDS = [None, True, False, 0, 1, -1, "", "x", "num", b"x", (), ("x",), [], ["x"], {}, {"x": 1}, set(), object(),
               Names, [["x"]], {"x"}]
NO_LISTS = [thing for thing in OTHER_KINDS if not isinstance(thing, list)]
NO_NAMES = ["", "abcdefghi", "X", "Ab", "aB", "a1", "1", "1a", " a", "a ", "a b", " ", "\na", "a\n", "a\nb", "\n",
            "\ta", "a\t", "a\tb", "a_b", "_", "a-b", "a.b", "a~", "`a", "{", "@", "a\r", "a" * 200]


def full():
    return Names(list(NUMBERS), list(WHOLES), list(THINGS), list(FUNCTIONS), list(ARRAYS))


def with_list(place, rows):
    """The five lists, empty but for one of them."""
    lists = [[], [], [], [], []]
    lists[place] = rows
    return lists


class TestTold(unittest.TestCase):
    def test_lists_in_their_order(self):
        names = Names(["y", "x"], [("m", 1, 2), ("k", 0, 0)], ["d", "c"], list(reversed(FUNCTIONS)), ["b", "a"])
        self.assertEqual(names.all_numbers(), ["y", "x"])
        self.assertEqual(names.all_wholes(), [("m", 1, 2), ("k", 0, 0)])
        self.assertEqual(names.all_things(), ["d", "c"])
        self.assertEqual(names.all_functions(), list(reversed(FUNCTIONS)))
        self.assertEqual(names.all_arrays(), ["b", "a"])

    def test_none_at_all(self):
        names = Names([], [], [], [], [])
        for rows in self.lists(names):
            self.assertEqual(rows, [])
        self.assertIsNone(names.kind("x"))

    def lists(self, names):
        return [names.all_numbers(), names.all_wholes(), names.all_things(), names.all_functions(),
                names.all_arrays()]

    def test_told_lists_are_the_askers_own(self):
        names = full()
        for rows in self.lists(names):
            self.assertIs(type(rows), list)
            rows.append("z")
            rows.reverse()
            rows.clear()
        self.assertEqual(self.lists(names), list(FIVE))
        self.assertEqual(names.kind("x"), "num")

    def test_handed_in_lists_are_copied_and_stay(self):
        handed = [list(rows) for rows in FIVE]
        names = Names(*handed)
        self.assertEqual(handed, list(FIVE))
        for rows in handed:
            rows.append(rows[0])
            rows.pop(0)
        handed[0].append("z")
        handed[1].append(("zz", 0, 1))
        self.assertEqual(self.lists(names), list(FIVE))
        self.assertIsNone(names.kind("z"))
        self.assertIsNone(names.bounds("zz"))

    def test_kind(self):
        names = full()
        for name in ["x", "y", "k", "m"]:
            self.assertEqual(names.kind(name), "num")
        for name in THINGS:
            self.assertEqual(names.kind(name), "thing")
        for name in ARRAYS:
            self.assertEqual(names.kind(name), "array")
        for name in ["f", "g", "h", "z", "", "num", "thing", "X", "xx"]:
            self.assertIsNone(names.kind(name))

    def test_bounds(self):
        names = full()
        self.assertEqual(names.bounds("k"), (0, 5))
        self.assertEqual(names.bounds("m"), (-3, 3))
        for name in NUMBERS + THINGS + ARRAYS + ["f", "g", "h", "z", ""]:
            self.assertIsNone(names.bounds(name))

    def test_function(self):
        names = full()
        for name, kinds, kind in FUNCTIONS:
            self.assertEqual(names.function(name), (kinds, kind))
        for name in NUMBERS + THINGS + ARRAYS + ["k", "m", "z", ""]:
            self.assertIsNone(names.function(name))

    def test_the_same_each_time(self):
        names = full()
        for turn in range(3):
            self.assertEqual(self.lists(names), list(FIVE))
            self.assertEqual([names.kind("k"), names.bounds("k"), names.function("k")], ["num", (0, 5), None])


class TestEdges(unittest.TestCase):
    def test_one_to_eight_letters(self):
        for name in ["a", "z", "abcdefgh", "zzzzzzzz", "num", "thing", "array"]:
            self.assertEqual(Names([name], [], [], [], []).kind(name), "num")
            self.assertEqual(Names([], [(name, 1, 2)], [], [], []).bounds(name), (1, 2))
            self.assertEqual(Names([], [], [name], [], []).kind(name), "thing")
            self.assertEqual(Names([], [], [], [(name, ("num",), "num")], []).function(name), (("num",), "num"))
            self.assertEqual(Names([], [], [], [], [name]).kind(name), "array")

    def test_bounds_sixty_apart(self):
        for low in [0, -60, -30, 7, 10 ** 59, -(10 ** 59)]:
            names = Names([], [("k", low, low + 60)], [], [], [])
            self.assertEqual(names.bounds("k"), (low, low + 60))
            self.assertEqual(Names([], [("k", low, low)], [], [], []).bounds("k"), (low, low))
            with self.assertRaises(BadNames):
                Names([], [("k", low, low + 61)], [], [], [])
            with self.assertRaises(BadNames):
                Names([], [("k", low, low - 1)], [], [], [])

    def test_values_together(self):
        for wide in [[60, 60], [60, 60, 1, 1], [61, 59], [2, 2, 2, 2, 3, 3, 5, 5], [1] * 20, [15, 15, 16]]:
            rows = [("kmno"[place % 4] * (1 + place // 4), 1, many) for place, many in enumerate(wide)]
            self.assertEqual(Names([], rows, [], [], []).all_wholes(), rows)
            with self.assertRaises(BadNames):
                Names([], rows + [("q", 1, 61), ("r", 1, 60)], [], [], [])

    def test_too_many_values_together(self):
        for wide in [[61, 60], [61, 61], [60, 30, 3], [2] * 12]:
            rows = [("kmno"[place % 4] * (1 + place // 4), 1, many) for place, many in enumerate(wide)]
            with self.assertRaises(BadNames):
                Names([], rows, [], [], [])
        self.assertRaises(BadNames, Names, [], [("k", 1, 60), ("m", 1, 60), ("n", 0, 1)], [], [], [])

    def test_functions_of_one_to_three_kinds(self):
        rows = []
        texts = ("num", "thing")
        for one in texts:
            rows.append((one,))
            for other in texts:
                rows.append((one, other))
                rows.extend([(one, other, third) for third in texts])
        for kinds in rows:
            for kind in texts:
                names = Names([], [], [], [("f", kinds, kind)], [])
                self.assertEqual(names.function("f"), (kinds, kind))


class TestRefused(unittest.TestCase):
    def refused(self, *lists):
        with self.assertRaises(BadNames, msg=repr(lists)):
            Names(*lists)

    def test_wrong_names(self):
        for name in NO_NAMES + [thing for thing in OTHER_KINDS if thing not in ("x", "num")]:
            self.refused(*with_list(0, [name]))
            self.refused(*with_list(1, [(name, 0, 1)]))
            self.refused(*with_list(2, ["c", name]))
            self.refused(*with_list(3, [(name, ("num",), "num")]))
            self.refused(*with_list(4, [name, "a"]))

    def test_a_name_twice_in_one_list(self):
        for place, row in enumerate(["x", ("x", 0, 1), "x", ("x", ("num",), "num"), "x"]):
            self.refused(*with_list(place, [row, row]))
        self.refused([], [("k", 0, 1), ("k", 3, 4)], [], [], [])
        self.refused([], [], [], [("f", ("num",), "num"), ("f", ("thing", "num"), "thing")], [])

    def test_a_name_twice_in_two_lists(self):
        rows = ["x", ("x", 0, 1), "x", ("x", ("num",), "num"), "x"]
        for one in range(5):
            for other in range(one + 1, 5):
                lists = with_list(one, [rows[one]])
                lists[other] = [rows[other]]
                self.refused(*lists)

    def test_wrong_bounds(self):
        for thing in [True, False, None, "", "1", "a", b"1", (), (1, 1), [], [1], {}, object()]:
            self.refused([], [("k", thing, 1)], [], [], [])
            self.refused([], [("k", 0, thing)], [], [], [])
            self.refused([], [("k", thing, thing)], [], [], [])

    def test_wrong_kinds_taken(self):
        for kinds in [(), ("num",) * 4, ("thing",) * 5, ["num"], "num", "thing", ("array",), ("Num",), ("num ",),
                      ("",), ("num", "array"), ("thing", "num", "x"), (None,), (1,), (True,), (("num",),),
                      (["num"],), ({},), None, 1, True, {"num": "num"}, {"num"}, object(), ("num", b"num")]:
            self.refused([], [], [], [("f", kinds, "num")], [])

    def test_wrong_kind_told(self):
        for kind in ["array", "", "Num", "num ", " thing", "numthing", "n", None, True, 0, ("num",), ["num"], {},
                     {"num": 1}, b"num", object()]:
            self.refused([], [], [], [("f", ("num",), kind)], [])

    def test_rows_of_other_forms(self):
        for row in [("k",), ("k", 0), ("k", 0, 1, 2), (), ["k", 0, 1], "k", ("k", (0, 1)), {"k": (0, 1)}]:
            self.refused([], [row], [], [], [])
        for row in [("f",), ("f", ("num",)), ("f", ("num",), "num", "num"), (), ["f", ("num",), "num"], "f",
                    ("f", "num", "num"), {"f": (("num",), "num")}]:
            self.refused([], [], [], [row], [])
        for row in [("x",), ["x"], ("x", 0, 1)]:
            for place in (0, 2, 4):
                self.refused(*with_list(place, [row]))

    def test_other_kinds_in_a_list(self):
        for thing in OTHER_KINDS:
            self.refused(*with_list(1, [thing]))
            self.refused(*with_list(3, [thing]))
            self.refused(*with_list(1, [("k", 0, 1), thing]))
            self.refused(*with_list(3, [("f", ("num",), "num"), thing]))

    def test_other_kinds_in_the_place_of_a_list(self):
        for thing in NO_LISTS + [("x", "y"), (("k", 0, 1),), "xyz", {"x": "y"}, range(0)]:
            for place in range(5):
                self.refused(*with_list(place, thing))

    def test_what_was_handed_in_stays_when_refused(self):
        lists = [["x"], [("k", 0, 1)], ["c"], [("f", ("num",), "num")], ["x"]]
        self.refused(*lists)
        self.assertEqual(lists, [["x"], [("k", 0, 1)], ["c"], [("f", ("num",), "num")], ["x"]])


if __name__ == "__main__":
    unittest.main()
