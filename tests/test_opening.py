import inspect
import unittest

from stripfold.bench import Bench
from stripfold.opening import free, opening
from tests.samples import chosen_foldable, diced_subsets, foldable_piles, grown, plain_free, subsets


def orders(creases):
    """The same creases handed in as lists and as tuples, in several orders."""
    rising = sorted(creases)
    half = len(rising) // 2
    turned = rising[half:] + rising[:half]
    return [rising, tuple(rising), rising[::-1], tuple(rising[::-1]), turned, tuple(turned)]


def behind_steps(steps):
    """The open creases behind each of the steps."""
    opened = set()
    found = []
    for step in steps:
        opened = opened | set(step)
        found.append(opened)
    return found


def near(opened, size):
    """The set with one crease more or less."""
    return [opened ^ {crease} for crease in range(size)]


class Arguments(unittest.TestCase):
    def test_names(self):
        self.assertEqual(str(inspect.signature(free)), "(pile, creases)")
        self.assertEqual(str(inspect.signature(opening)), "(pile)")


class Free(unittest.TestCase):
    def assert_judged(self, pile, creases):
        wanted = plain_free(pile, set(creases))
        self.assertIs(free(pile, creases), wanted, (pile, creases))
        return wanted

    def test_by_hand(self):
        self.assertIs(free([0], []), True)
        self.assertIs(free([0], ()), True)
        self.assertIs(free([0, 1], [0]), True)
        # Stamp 2 is the first of a part by itself with stamp 3; stamp 1 and 0 make the other part.
        self.assertIs(free([0, 2, 3, 1], [1]), True)
        # Crease 0, closed, wraps stamp 2, the end of its part at the open crease 2.
        self.assertIs(free([0, 2, 3, 1], [2]), False)
        # Crease 2, closed, wraps stamp 1, the end of its part at the open crease 0.
        self.assertIs(free([2, 0, 1, 3], [0]), False)
        # The same creases wrap nothing any more where they are open themselves.
        self.assertIs(free([0, 2, 3, 1], [0, 2]), False)
        self.assertIs(free([0, 2, 3, 1], [0, 1, 2]), True)

    def test_inner_parts_of_an_even_number_are_not_free(self):
        straight = list(range(10))
        for low in range(8):
            for high in range(low + 1, 9):
                self.assertIs(free(straight, [low, high]), (high - low) % 2 == 1, (low, high))

    def test_the_first_and_the_last_part_may_have_any_number(self):
        straight = list(range(10))
        for crease in range(9):
            self.assertIs(free(straight, [crease]), True)

    def test_creases_of_another_part_do_not_hinder(self):
        # Crease 0 wraps all other stamps, but with crease 1 open it lies in another part than they.
        pile = [0, 2, 3, 4, 5, 1]
        self.assertIs(free(pile, [4]), False)
        self.assertIs(free(pile, [1, 4]), True)
        self.assertTrue(plain_free(pile, {1, 4}))

    def test_creases_of_the_other_side_do_not_hinder(self):
        # Crease 0 wraps stamp 3, but lies at the other side than the open crease 3.
        self.assertIs(free([0, 3, 2, 1, 4], [3]), True)

    def test_all_sets_of_all_piles_of_up_to_6_stamps(self):
        seen = {True: 0, False: 0}
        for pile in foldable_piles(6):
            for creases in subsets(range(len(pile) - 1)):
                seen[self.assert_judged(pile, creases)] += 1
        self.assertGreater(min(seen.values()), 500)

    def test_lists_and_tuples_in_any_order(self):
        for pile in foldable_piles(5) + [grown(100, 9)]:
            size = len(pile) - 1
            several = subsets(range(size)) if size < 5 else diced_subsets(size, 20, 7)
            for creases in several:
                wanted = plain_free(pile, set(creases))
                for handed in orders(creases):
                    self.assertIs(free(pile, handed), wanted, (pile, handed))

    def test_none_and_all(self):
        for pile in foldable_piles(7) + chosen_foldable():
            every = list(range(len(pile) - 1))
            for creases in ([], (), every, tuple(every), every[::-1]):
                self.assertIs(free(pile, creases), True, pile)

    def test_large_piles(self):
        seen = {True: 0, False: 0}
        for pile in chosen_foldable():
            size = len(pile) - 1
            several = [[crease] for crease in range(size)] + [[crease, crease + 1] for crease in range(size - 1)]
            several += [[0, crease] for crease in range(1, size)] + diced_subsets(size, 8, size)
            several += [list(range(0, size, 2)), list(range(1, size, 2))]
            for creases in several:
                seen[self.assert_judged(pile, creases)] += 1
        self.assertGreater(min(seen.values()), 500)

    def test_large_piles_near_to_free_sets(self):
        for pile in [grown(40, 11), grown(40, 12), grown(100, 13)]:
            size = len(pile) - 1
            for opened in behind_steps(opening(pile))[::5]:
                for creases in [opened] + near(opened, size)[::3]:
                    self.assert_judged(pile, sorted(creases))

    def test_somewhat_beyond_100_stamps(self):
        pile = grown(110, 5)
        for creases in [[], list(range(109))] + diced_subsets(109, 10, 3):
            self.assert_judged(pile, creases)


class Opening(unittest.TestCase):
    def assert_steps(self, pile):
        told = opening(pile)
        self.assertIs(type(told), list, pile)
        closed = set(range(len(pile) - 1))
        every = set(closed)
        for step in told:
            self.assertIs(type(step), tuple, pile)
            self.assertIn(len(step), (1, 2), pile)
            self.assertTrue(all(type(crease) is int for crease in step), pile)
            self.assertEqual(list(step), sorted(set(step)), pile)
            self.assertLessEqual(set(step), closed, pile)
            closed -= set(step)
            self.assertTrue(plain_free(pile, every - closed), (pile, told, step))
        self.assertEqual(closed, set(), pile)

    def test_one_stamp(self):
        self.assertEqual(opening([0]), [])
        self.assertIs(type(opening([0])), list)

    def test_two_stamps(self):
        self.assertEqual(opening([0, 1]), [(0,)])
        self.assertEqual(opening([1, 0]), [(0,)])

    def test_all_piles_of_up_to_7_stamps(self):
        for pile in foldable_piles(7):
            self.assert_steps(pile)

    def test_large_piles(self):
        for pile in chosen_foldable():
            self.assert_steps(pile)

    def test_many_piles_of_middling_size(self):
        for seed in range(100, 300):
            self.assert_steps(grown(8 + seed % 20, seed))

    def test_somewhat_beyond_100_stamps(self):
        self.assert_steps(grown(110, 5))

    def test_on_a_bench_forwards_and_backwards(self):
        for pile in foldable_piles(7) + chosen_foldable():
            bench = Bench(pile)
            steps = opening(pile)
            shown = [bench.parts()]
            for step in steps:
                bench.draw(step)
                shown.append(bench.parts())
            self.assertEqual(bench.parts(), [[stamp] for stamp in range(len(pile))], pile)
            for step in reversed(steps):
                self.assertEqual(bench.parts(), shown.pop(), pile)
                bench.press(step)
            self.assertEqual(bench.parts(), [pile])
            self.assertEqual(bench.loose(), [])


class TheAskersOwn(unittest.TestCase):
    def test_nothing_handed_in_is_changed(self):
        for pile in foldable_piles(5) + chosen_foldable():
            handed = list(pile)
            opening(handed)
            self.assertEqual(handed, pile)
            creases = list(range(len(pile) - 1))[::-1][::2]
            kept = list(creases)
            free(handed, creases)
            self.assertEqual(handed, pile)
            self.assertEqual(creases, kept)

    def test_a_change_of_the_steps_told_changes_nothing_else(self):
        for pile in [[0], [0, 1], [2, 0, 1], grown(100, 21)]:
            handed = list(pile)
            told = opening(handed)
            kept = list(told)
            told.reverse()
            told.append((77,))
            self.assertEqual(handed, pile)
            self.assertEqual(opening(handed), kept)

    def test_nothing_later_changes_the_steps_told(self):
        handed = grown(100, 22)
        told = opening(handed)
        kept = list(told)
        opening(grown(100, 23))
        free(handed, list(range(99)))
        handed.reverse()
        self.assertEqual(told, kept)


if __name__ == "__main__":
    unittest.main()
