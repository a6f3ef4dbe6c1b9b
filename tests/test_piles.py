import inspect
import unittest

from stripfold.errors import NoPile
from stripfold.judge import crossing
from stripfold.piles import letters, places, turned
from tests.samples import GREAT, NO_PILES, all_piles, large_piles, mixed, plain_letter


class Refusals(unittest.TestCase):
    def test_no_pile_is_refused_by_each_and_left_as_it_was(self):
        asks = {
            "places": places,
            "letters": letters,
            "turned": turned,
            "turned by 0": lambda pile: turned(pile, 0),
            "turned far": lambda pile: turned(pile, -GREAT),
            "crossing": crossing,
        }
        for fault, wrong in NO_PILES.items():
            for pile in wrong:
                for name, ask in asks.items():
                    with self.subTest(fault=fault, pile=pile, name=name):
                        handed = list(pile)
                        with self.assertRaises(NoPile):
                            ask(handed)
                        self.assertEqual(handed, pile)

    def test_one_fault_in_a_pile_of_100_is_refused(self):
        for spot in range(100):
            for wrong in (-1, 100, GREAT, mixed(100)[spot - 1]):
                pile = mixed(100)
                pile[spot] = wrong
                for ask in (places, letters, turned, crossing):
                    with self.subTest(spot=spot, wrong=wrong, ask=ask.__name__):
                        with self.assertRaises(NoPile):
                            ask(pile)


class Arguments(unittest.TestCase):
    def test_names_and_defaults(self):
        for ask in (places, letters, crossing):
            self.assertEqual(str(inspect.signature(ask)), "(pile)")
        self.assertEqual(str(inspect.signature(turned)), "(pile, by=1)")


class Places(unittest.TestCase):
    def test_by_hand(self):
        self.assertEqual(places([0]), [0])
        self.assertEqual(places([1, 0]), [1, 0])
        self.assertEqual(places([2, 0, 1]), [1, 2, 0])
        self.assertEqual(places([3, 1, 0, 2]), [2, 1, 3, 0])

    def test_how_many_lie_beneath(self):
        for pile in all_piles(6) + large_piles():
            with self.subTest(pile=pile):
                told = places(pile)
                self.assertIs(type(told), list)
                self.assertEqual(told, [pile.index(stamp) for stamp in range(len(pile))])


class Letters(unittest.TestCase):
    def test_by_hand(self):
        by_hand = [
            ([0], ""),
            ([0, 1], "V"),
            ([1, 0], "M"),
            ([0, 1, 2], "VM"),
            ([2, 1, 0], "MV"),
            ([0, 2, 1], "VV"),
            ([1, 2, 0], "MM"),
            ([2, 0, 1], "VV"),
            ([1, 0, 2], "MM"),
            ([0, 3, 2, 1], "VVM"),
            ([1, 3, 0, 2], "MMM"),
        ]
        for pile, row in by_hand:
            with self.subTest(pile=pile):
                self.assertEqual(letters(pile), row)

    def test_straight_through_100(self):
        self.assertEqual(letters(list(range(100))), "VM" * 49 + "V")
        self.assertEqual(letters(list(range(99, -1, -1))), "MV" * 49 + "M")

    def test_each_crease(self):
        for pile in all_piles(6) + large_piles():
            with self.subTest(pile=pile):
                told = letters(pile)
                self.assertIs(type(told), str)
                self.assertEqual(told, "".join(plain_letter(pile, c) for c in range(len(pile) - 1)))


class Turned(unittest.TestCase):
    def test_by_hand(self):
        self.assertEqual(turned([0]), [0])
        self.assertEqual(turned([2, 0, 1]), [0, 1, 2])
        self.assertEqual(turned([2, 0, 1], 1), [0, 1, 2])
        self.assertEqual(turned([2, 0, 1], by=2), [1, 2, 0])
        self.assertEqual(turned([2, 0, 1], -1), [1, 2, 0])
        self.assertEqual(turned([2, 0, 3, 1], -1), [1, 2, 0, 3])
        self.assertEqual(turned([2, 0, 3, 1], -2), [3, 1, 2, 0])

    def test_one_by_one_upwards_and_downwards(self):
        for pile in all_piles(5) + large_piles():
            up, down = list(pile), list(pile)
            for by in range(2 * len(pile) + 2):
                self.assertEqual(turned(pile, by), up, (pile, by))
                self.assertEqual(turned(pile, -by), down, (pile, -by))
                up.append(up.pop(0))
                down.insert(0, down.pop())

    def test_no_number_told_is_one(self):
        for pile in large_piles():
            self.assertEqual(turned(pile), pile[1:] + pile[:1])

    def test_the_size_and_nought_leave_it(self):
        for pile in large_piles():
            for by in (0, len(pile), -len(pile), 5 * len(pile)):
                with self.subTest(pile=pile, by=by):
                    told = turned(pile, by)
                    self.assertIs(type(told), list)
                    self.assertEqual(told, pile)

    def test_far_greater_than_the_size(self):
        for pile in large_piles():
            rounds = len(pile) * 10 ** 197
            for rest in (0, 1, 2, len(pile) - 1):
                cut = rest % len(pile)
                with self.subTest(pile=pile, rest=rest):
                    self.assertEqual(turned(pile, rounds + rest), pile[cut:] + pile[:cut])
                    self.assertEqual(turned(pile, rest - rounds), pile[cut:] + pile[:cut])
                    self.assertEqual(turned(turned(pile, -rounds - rest), rest), pile)

    def test_200_figures(self):
        pile = mixed(100)
        self.assertEqual(turned(pile, GREAT), pile[99:] + pile[:99])
        self.assertEqual(turned(pile, -GREAT), pile[1:] + pile[:1])


class TheAskersOwn(unittest.TestCase):
    def test_nothing_handed_in_is_changed(self):
        for pile in all_piles(4) + large_piles():
            handed = list(pile)
            for ask in (places, letters, turned, crossing):
                ask(handed)
                self.assertEqual(handed, pile, ask.__name__)
            for by in (0, 2, -3, len(pile), GREAT):
                turned(handed, by)
                self.assertEqual(handed, pile, by)

    def test_a_change_of_what_was_told_changes_nothing_else(self):
        for pile in all_piles(3) + [mixed(100)]:
            for ask in (places, turned, lambda p: turned(p, 0), lambda p: turned(p, len(p))):
                handed = list(pile)
                told = ask(handed)
                kept = list(told)
                told[0] = 77
                told.append(78)
                self.assertEqual(handed, pile)
                self.assertEqual(ask(handed), kept)

    def test_a_later_change_of_what_was_handed_in_changes_nothing_told(self):
        for pile in all_piles(3) + [mixed(100)]:
            for ask in (places, turned, lambda p: turned(p, 0)):
                handed = list(pile)
                told = ask(handed)
                kept = list(told)
                handed.reverse()
                handed.append(78)
                self.assertEqual(told, kept)
                self.assertEqual(ask(list(pile)), kept)


if __name__ == "__main__":
    unittest.main()
