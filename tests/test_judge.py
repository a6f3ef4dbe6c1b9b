import unittest

from stripfold.judge import crossing
from stripfold.piles import turned
from tests.samples import all_piles, large_piles, mixed, plain_crossings

FOLDABLE_COUNTS = {1: 1, 2: 2, 3: 6, 4: 16, 5: 50, 6: 144, 7: 462}


class CrossingCreases(unittest.TestCase):
    def assert_judged(self, pile, pairs):
        told = crossing(pile)
        if not pairs:
            self.assertIsNone(told, pile)
            return
        self.assertIs(type(told), tuple, pile)
        self.assertIn(told, pairs, pile)

    def test_foldable(self):
        by_hand = [[0], [0, 1], [1, 0], [1, 2, 0], [0, 3, 2, 1], list(range(100)), list(range(99, -1, -1))]
        for pile in by_hand:
            with self.subTest(pile=pile):
                self.assertIsNone(crossing(pile))

    def test_even_creases_that_cross(self):
        for pile in ([0, 2, 1, 3], [3, 1, 2, 0], [0, 3, 1, 2], [2, 1, 3, 0]):
            with self.subTest(pile=pile):
                self.assertEqual(crossing(pile), (0, 2))

    def test_odd_creases_that_cross(self):
        for pile in ([1, 3, 2, 4, 0], [0, 4, 2, 3, 1], [3, 2, 4, 1, 0], [2, 0, 4, 1, 3]):
            with self.subTest(pile=pile):
                self.assertEqual(crossing(pile), (1, 3))

    def test_creases_of_unlike_sides_do_not_cross(self):
        # Crease 0 wraps stamp 3 and not stamp 4, so it meets crease 3, but at the other side.
        self.assertIsNone(crossing([0, 3, 2, 1, 4]))
        # Crease 1 wraps stamp 4 and not stamp 5, so it meets crease 4, but at the other side.
        self.assertIsNone(crossing([0, 1, 4, 3, 2, 5]))

    def test_one_wholly_within_another_does_not_cross(self):
        self.assertIsNone(crossing([0, 2, 3, 1]))
        self.assertIsNone(crossing([2, 0, 1, 3]))

    def test_the_only_pair_near_one_another(self):
        self.assertEqual(crossing(list(range(97)) + [98, 97, 99]), (96, 98))
        self.assertEqual(crossing([0, 1, 3, 2] + list(range(4, 100))), (1, 3))

    def test_the_only_pair_far_from_one_another(self):
        self.assertEqual(crossing([0, 2, 3, 4, 1, 5]), (0, 4))
        self.assertEqual(crossing([0, 1, 3, 4, 5, 2, 6]), (1, 5))
        self.assertEqual(crossing([99] + list(range(1, 99)) + [0]), (0, 98))
        self.assertEqual(crossing([99, 98] + list(range(2, 98)) + [1, 0]), (1, 97))

    def test_all_orders_of_up_to_7_stamps(self):
        counts = {size: 0 for size in FOLDABLE_COUNTS}
        for pile in all_piles(7):
            self.assert_judged(pile, plain_crossings(pile))
            counts[len(pile)] += crossing(pile) is None
        self.assertEqual(counts, FOLDABLE_COUNTS)

    def test_large_orders(self):
        for pile in large_piles():
            self.assert_judged(pile, plain_crossings(pile))


class TurnedPiles(unittest.TestCase):
    def assert_same_pairs(self, pile, turns):
        pairs = plain_crossings(pile)
        for by in turns:
            round_pile = turned(pile, by)
            self.assertEqual(plain_crossings(round_pile), pairs, (pile, by))
            told = crossing(round_pile)
            self.assertEqual(told is None, not pairs, (pile, by))
            if pairs:
                self.assertIn(told, pairs, (pile, by))

    def test_small_orders_turned_all_round(self):
        for pile in all_piles(6):
            self.assert_same_pairs(pile, range(1 - len(pile), len(pile)))

    def test_large_orders_turned(self):
        for pile in large_piles():
            self.assert_same_pairs(pile, (1, -1, len(pile) // 2))


class TheAskersOwn(unittest.TestCase):
    def test_the_same_answer_whatever_was_asked_between(self):
        first, second = [0, 2, 1, 3], mixed(100)
        told = crossing(first)
        crossing(second)
        first.reverse()
        self.assertEqual(told, (0, 2))
        self.assertEqual(crossing([0, 2, 1, 3]), (0, 2))
        self.assertEqual(second, mixed(100))


if __name__ == "__main__":
    unittest.main()
