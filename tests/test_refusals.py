"""Point 14: what is refused, by each function that the interface names, and in which order."""

import unittest

from stripfold.bench import Bench
from stripfold.errors import Crossing, NoCrease, NoPile, Stuck
from stripfold.opening import free, opening
from tests.samples import GREAT, NO_PILES, all_piles, foldable_piles, grown, large_piles, plain_crossings

WRONG_CREASES = [[-1], (0, 0), [GREAT], [-GREAT, GREAT], (100, 3, 100)]

WANT_FOLDABLE = {"opening": opening, "Bench": Bench, "free of none": lambda pile: free(pile, [])}
for number, wrong_creases in enumerate(WRONG_CREASES):
    WANT_FOLDABLE[f"free of wrong creases {number}"] = lambda pile, creases=wrong_creases: free(pile, creases)


def wrong_creases_of(size):
    """Rows of creases with just one fault, for a pile of so many stamps, as lists and as tuples."""
    last = size - 2
    strangers = [-1, -2, -size, 1 - size, last + 1, last + 2, 2 * size, 2 ** 64, 10 ** 150, GREAT, -GREAT]
    found = [[number] for number in strangers]
    if last >= 0:
        found += [[0, number] for number in strangers] + [[number, last] for number in strangers]
        found += [[0, 0], [last, last], [last, last, last], list(range(last + 1)) + [0], [last] + list(range(last + 1))]
    found += [list(range(last + 1)) + [number] for number in strangers] + [[GREAT, GREAT], [-1, -1]]
    return found + [tuple(creases) for creases in found]


class NoPiles(unittest.TestCase):
    def test_refused_ahead_of_all_else(self):
        for wrong in NO_PILES.values():
            for pile in wrong + [[0, 2, 1, 3, 3], [0, 2, 1, 3, 5], [0, 2, 1, 3, -1]]:
                for name, ask in WANT_FOLDABLE.items():
                    handed = list(pile)
                    with self.assertRaises(NoPile, msg=(name, pile)):
                        ask(handed)
                    self.assertEqual(handed, pile)


class Crossings(unittest.TestCase):
    def assert_refused(self, pile, pairs):
        for name, ask in WANT_FOLDABLE.items():
            handed = list(pile)
            with self.assertRaises(Crossing, msg=(name, pile)) as taken:
                ask(handed)
            told = (taken.exception.one, taken.exception.other)
            self.assertIs(type(told[0]), int)
            self.assertIs(type(told[1]), int)
            self.assertLess(told[0], told[1])
            self.assertIn(told, pairs, (name, pile))
            self.assertEqual(handed, pile)

    def test_all_orders_of_up_to_6_stamps(self):
        for pile in all_piles(6):
            pairs = plain_crossings(pile)
            if pairs:
                self.assert_refused(pile, pairs)

    def test_large_orders(self):
        for pile in large_piles() + [[99] + list(range(1, 99)) + [0]]:
            pairs = plain_crossings(pile)
            if pairs:
                self.assert_refused(pile, pairs)

    def test_foldable_piles_are_not_refused(self):
        for pile in foldable_piles(6):
            free(pile, [])
            opening(pile)
            Bench(pile)


class NoCreases(unittest.TestCase):
    def piles(self):
        return [[0], [0, 1], [1, 0], [2, 0, 1], [0, 2, 3, 1], grown(30, 1), grown(99, 2), grown(100, 3)]

    def assert_refused(self, ask, creases):
        handed = creases[:]
        with self.assertRaises(NoCrease, msg=creases):
            ask(handed)
        self.assertEqual(handed, creases)

    def test_free(self):
        for pile in self.piles():
            for creases in wrong_creases_of(len(pile)):
                self.assert_refused(lambda handed: free(pile, handed), creases)

    def test_deeds_on_a_closed_pile(self):
        for pile in self.piles():
            bench = Bench(pile)
            for creases in wrong_creases_of(len(pile)):
                self.assert_refused(bench.draw, creases)
                self.assert_refused(bench.press, creases)
            self.assertEqual(bench.loose(), [])
            self.assertEqual(bench.parts(), [pile])

    def test_deeds_on_the_straight_strip(self):
        for pile in self.piles():
            bench = Bench(pile)
            every = list(range(len(pile) - 1))
            bench.draw(every)
            for creases in wrong_creases_of(len(pile)):
                self.assert_refused(bench.draw, creases)
                self.assert_refused(bench.press, creases)
            self.assertEqual(bench.loose(), every)
            self.assertEqual(bench.parts(), [[stamp] for stamp in range(len(pile))])

    def test_the_first_and_the_last_crease_are_creases(self):
        for pile in self.piles()[1:]:
            for crease in (0, len(pile) - 2):
                self.assertIn(free(pile, [crease]), (True, False))
                with self.assertRaises(Stuck):
                    Bench(pile).press([crease])

    def test_ahead_of_stuck(self):
        bench = Bench([0, 2, 3, 1])
        self.assert_refused(bench.press, [0, 3])
        self.assert_refused(bench.press, [1, 1])
        self.assert_refused(bench.draw, [2, 2])
        self.assert_refused(bench.draw, (2, -1))
        bench.draw([0])
        self.assert_refused(bench.draw, [0, 3])
        self.assert_refused(bench.draw, [0, 0])
        self.assert_refused(bench.draw, (0, GREAT))
        self.assert_refused(bench.press, (0, 1, 0))


if __name__ == "__main__":
    unittest.main()
