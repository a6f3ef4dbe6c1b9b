"""The tests' own piles are what they are said to be."""

import unittest

from tests.samples import chosen_foldable, foldable_piles, plain_crossings, plain_free


class Samples(unittest.TestCase):
    def test_chosen_piles_are_foldable_piles(self):
        piles = chosen_foldable()
        self.assertEqual(max(len(pile) for pile in piles), 100)
        for pile in piles:
            self.assertEqual(sorted(pile), list(range(len(pile))))
            self.assertEqual(plain_crossings(pile), set(), pile)

    def test_numbers_of_foldable_piles(self):
        sizes = [len(pile) for pile in foldable_piles(7)]
        self.assertEqual([sizes.count(size) for size in range(1, 8)], [1, 2, 6, 16, 50, 144, 462])

    def test_plain_free_by_hand(self):
        # One open crease leaves no inner part; a stamp at it may be wrapped only by creases of the other side.
        self.assertTrue(plain_free([0, 1, 2], {0}))
        self.assertTrue(plain_free([0, 1, 2], {0, 1}))
        self.assertFalse(plain_free([0, 2, 3, 1], {2}))
        self.assertTrue(plain_free([0, 2, 3, 1], {0}))
        # The inner part of the stamps 1 and 2 has an even number.
        self.assertFalse(plain_free([0, 1, 2, 3], {0, 2}))
        self.assertTrue(plain_free([0, 1, 2, 3, 4], {0, 3}))


if __name__ == "__main__":
    unittest.main()
