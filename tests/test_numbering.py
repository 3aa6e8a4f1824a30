"""Numbers for terms: like ones have one, and no key of their dict is deeper than a key may be."""

import unittest

from partproof.numbering import Numbering, each_once
from samples import A, ARRAY_WRAPS, C, DEEPEST_KEY, NUM_WRAPS, THING_WRAPS, X, Y, deep, depth, plus, put, read


class TestNumbering(unittest.TestCase):
    def test_keys_are_not_deep(self):
        for wraps, leaf in [(NUM_WRAPS, X), (THING_WRAPS, C), (ARRAY_WRAPS, A)]:
            for wrap in wraps:
                numbering = Numbering()
                numbering.number(deep(wrap, leaf, 12))
                for key in numbering.numbers:
                    self.assertLessEqual(depth(key), DEEPEST_KEY)

    def test_like_terms_have_one_number(self):
        numbering = Numbering()
        terms = [X, plus(X, Y), read(put(A, X, Y), X), put(A, X, Y), Y, plus(Y, X)]
        numbers = [numbering.number(term) for term in terms]
        self.assertEqual(len(set(numbers)), len(terms))
        self.assertEqual([numbering.number(term) for term in terms], numbers)
        self.assertEqual([numbering.terms[number] for number in numbers], terms)

    def test_each_once(self):
        self.assertEqual(each_once([]), [])
        self.assertEqual(each_once([Y, X, plus(X, Y), Y, plus(X, Y), plus(Y, X)]), [Y, X, plus(X, Y), plus(Y, X)])


if __name__ == "__main__":
    unittest.main()
