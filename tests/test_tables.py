"""Tables, with which the sums work: copies go their own ways, quick and slow choices settle the same rows."""

import unittest
from unittest import mock

from partproof.tables import Table


def form(constant, **weights):
    return ((constant, 1), {name: (weight, 1) for name, weight in weights.items()})


class TestTable(unittest.TestCase):
    def test_rows_laid_behind_a_settling(self):
        table = Table()
        self.assertIsNone(table.settle())
        self.assertEqual(table.point(), {})
        table.lay("atmost", form(1, x=-1))
        table.lay("atmost", form(0, x=1, y=-1))
        self.assertIsNone(table.settle())
        table.lay("below", form(-2, y=1))
        self.assertIsNone(table.settle())
        point = table.point()
        self.assertTrue(1 <= point["x"][0] / point["x"][1] <= point["y"][0] / point["y"][1] < 2)
        table.lay("below", form(-1, y=1))
        weights = table.settle()
        self.assertEqual(weights[2], 0)
        self.assertTrue(weights[0] == weights[1] == weights[3] > 0)

    def test_a_copy_goes_its_own_ways(self):
        table = Table()
        table.lay("atmost", form(1, x=-1))
        table.lay("atmost", form(-5, x=1))
        self.assertIsNone(table.settle())
        wanted = table.point()
        copy = table.copied()
        copy.lay("equal", form(-7, x=1))
        copy.lay("atmost", form(0, y=1))
        self.assertIsNotNone(copy.settle())
        self.assertIsNone(table.settle())
        self.assertEqual(table.point(), wanted)
        table.lay("equal", form(-3, x=1))
        self.assertIsNone(table.settle())
        self.assertEqual(table.point(), {"x": (3, 1)})

    def test_an_equal_row_never_gives_way(self):
        for turns in (0, 1000):
            with mock.patch("partproof.tables.QUICK_TURNS", turns):
                table = Table()
                table.lay("equal", form(-3, x=1, y=1))
                table.lay("equal", form(-1, x=1, y=-1))
                table.lay("atmost", form(0, x=1, z=1))
                table.lay("atmost", form(0, x=-1, z=-1))
                self.assertIsNone(table.settle())
                self.assertEqual(table.point(), {"x": (2, 1), "y": (1, 1), "z": (-2, 1)})
                table.lay("below", form(2, z=1))
                self.assertIsNotNone(table.settle())


if __name__ == "__main__":
    unittest.main()
