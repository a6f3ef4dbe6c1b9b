import inspect
import unittest

from stripfold.bench import Bench
from stripfold.errors import NoCrease, Stuck
from stripfold.opening import opening
from tests.samples import chosen_foldable, dice, foldable_piles, grown, plain_free, plain_parts, subsets


class BenchCase(unittest.TestCase):
    def assert_lies(self, bench, pile, opened):
        self.assertEqual(bench.loose(), sorted(opened), pile)
        self.assertEqual(bench.parts(), plain_parts(pile, opened), (pile, opened))

    def assert_stuck(self, deed, creases):
        with self.assertRaises(Stuck, msg=creases):
            deed(creases)


class Arguments(unittest.TestCase):
    def test_names(self):
        self.assertEqual(str(inspect.signature(Bench)), "(pile)")
        self.assertEqual(str(inspect.signature(Bench.draw)), "(self, creases)")
        self.assertEqual(str(inspect.signature(Bench.press)), "(self, creases)")
        self.assertEqual(str(inspect.signature(Bench.loose)), "(self)")
        self.assertEqual(str(inspect.signature(Bench.parts)), "(self)")


class Told(BenchCase):
    def test_all_closed_at_first(self):
        for pile in foldable_piles(6) + chosen_foldable():
            bench = Bench(pile)
            self.assertEqual(bench.loose(), [])
            self.assertEqual(bench.parts(), [pile])

    def test_one_stamp(self):
        bench = Bench([0])
        for deed in (bench.draw, bench.press):
            deed([])
            deed(())
            self.assertEqual(bench.loose(), [])
            self.assertEqual(bench.parts(), [[0]])

    def test_parts_by_hand(self):
        bench = Bench([1, 0, 4, 3, 2])
        bench.draw([1])
        self.assertEqual(bench.parts(), [[1, 0], [4, 3, 2]])
        bench.draw([2, 3])
        self.assertEqual(bench.parts(), [[1, 0], [2], [3], [4]])
        bench.draw((0,))
        self.assertEqual(bench.parts(), [[0], [1], [2], [3], [4]])
        self.assertEqual(bench.loose(), [0, 1, 2, 3])

    def test_loose_rises_whatever_the_order_of_deeds(self):
        bench = Bench(list(range(12)))
        bench.draw([10])
        bench.draw((7, 2))
        bench.draw([4, 3])
        self.assertEqual(bench.loose(), [2, 3, 4, 7, 10])
        bench.press([10, 2])
        self.assertEqual(bench.loose(), [3, 4, 7])

    def test_kinds(self):
        bench = Bench(grown(100, 31))
        for creases in ([], tuple(range(99))):
            bench.draw(creases)
            self.assertIs(type(bench.loose()), list)
            self.assertTrue(all(type(crease) is int for crease in bench.loose()))
            self.assertIs(type(bench.parts()), list)
            self.assertTrue(all(type(part) is list for part in bench.parts()))

    def test_all_at_once_and_back(self):
        for pile in foldable_piles(6) + chosen_foldable():
            every = list(range(len(pile) - 1))
            bench = Bench(pile)
            bench.draw(every[::-1])
            self.assert_lies(bench, pile, set(every))
            bench.press(tuple(every))
            self.assert_lies(bench, pile, set())


class Deeds(BenchCase):
    def assert_deed(self, bench, pile, opened, name, creases):
        """Does the deed, holds it against the words of point 13, and gives back the creases open behind it."""
        drawn = name == "draw"
        behind = opened | set(creases) if drawn else opened - set(creases)
        already = opened & set(creases) if drawn else set(creases) - opened
        deed = bench.draw if drawn else bench.press
        if already or not plain_free(pile, behind):
            self.assert_stuck(deed, creases)
            behind = opened
        else:
            deed(creases)
        self.assert_lies(bench, pile, behind)
        return behind

    def test_every_deed_from_every_free_set_of_up_to_5_stamps(self):
        for pile in foldable_piles(5):
            every = subsets(range(len(pile) - 1))
            for opened in every:
                if not plain_free(pile, set(opened)):
                    self.assert_stuck(Bench(pile).draw, opened)
                    continue
                for creases in every:
                    for name in ("draw", "press"):
                        bench = Bench(pile)
                        bench.draw(opened)
                        self.assert_deed(bench, pile, set(opened), name, list(creases))

    def test_long_rows_of_deeds(self):
        for seed, pile in enumerate(foldable_piles(6)[75:] + [grown(size, size) for size in (12, 30, 100)]):
            throws = dice(seed)
            bench = Bench(pile)
            opened = set()
            for turn in range(40):
                some = {next(throws) % (len(pile) - 1) for k in range(1 + next(throws) % 3)}
                name = ("draw", "press")[next(throws) % 2]
                opened = self.assert_deed(bench, pile, opened, name, sorted(some)[::-1])

    def test_steps_taken_and_taken_back_here_and_there(self):
        for pile in chosen_foldable()[::4]:
            bench = Bench(pile)
            opened = set()
            for step in opening(pile):
                opened = self.assert_deed(bench, pile, opened, "draw", step)
                self.assert_stuck(bench.draw, step[:1])
                bench.press(step)
                self.assert_lies(bench, pile, opened - set(step))
                self.assert_stuck(bench.press, step)
                bench.draw(step)
            self.assertEqual(bench.loose(), list(range(len(pile) - 1)))

    def test_drawn_though_open_already(self):
        bench = Bench(list(range(6)))
        bench.draw([0, 1])
        for creases in ([0], [1], (0, 1), [2, 1], [0, 2, 3], [0, 1, 2, 3, 4]):
            self.assert_stuck(bench.draw, creases)
            self.assert_lies(bench, list(range(6)), {0, 1})

    def test_pressed_though_closed_already(self):
        bench = Bench(list(range(6)))
        self.assert_stuck(bench.press, [0])
        bench.draw([0, 1])
        for creases in ([2], (4,), [0, 1, 2], [1, 3], [4, 0, 1]):
            self.assert_stuck(bench.press, creases)
            self.assert_lies(bench, list(range(6)), {0, 1})

    def test_not_free_behind_a_draw(self):
        bench = Bench([0, 2, 3, 1])
        self.assert_stuck(bench.draw, [2])
        self.assert_lies(bench, [0, 2, 3, 1], set())
        bench.draw([0])
        self.assert_stuck(bench.draw, [2])
        self.assert_lies(bench, [0, 2, 3, 1], {0})
        bench.draw([2, 1])
        self.assert_lies(bench, [0, 2, 3, 1], {0, 1, 2})

    def test_not_free_behind_a_press(self):
        bench = Bench([0, 2, 3, 1])
        bench.draw([0, 1, 2])
        for creases in ([0, 1], [1]):
            self.assert_stuck(bench.press, creases)
            self.assert_lies(bench, [0, 2, 3, 1], {0, 1, 2})

    def test_deeds_of_no_creases_do_nothing(self):
        for pile in foldable_piles(4) + [grown(100, 41)]:
            bench = Bench(pile)
            opened = set()
            for step in [()] + opening(pile):
                bench.draw(step)
                opened |= set(step)
                for deed in (bench.draw, bench.press):
                    deed([])
                    deed(())
                    self.assert_lies(bench, pile, opened)

    def test_a_deed_refused_with_no_crease_leaves_all_as_it_was(self):
        bench = Bench(list(range(6)))
        bench.draw([2, 3])
        for creases in ([0, 5], [0, -1], [0, 0], [2, 5], [2, 2]):
            for deed in (bench.draw, bench.press):
                with self.assertRaises(NoCrease):
                    deed(creases)
                self.assert_lies(bench, list(range(6)), {2, 3})


class SideBySide(BenchCase):
    def test_two_benches(self):
        for pile, twin in (([0, 2, 3, 1], [0, 2, 3, 1]), (grown(50, 1), grown(50, 1)), ([0, 1], grown(100, 2))):
            first, second = Bench(pile), Bench(twin)
            first.draw(list(range(len(pile) - 1)))
            self.assert_lies(second, twin, set())
            step = opening(twin)[0]
            second.draw(step)
            self.assert_lies(first, pile, set(range(len(pile) - 1)))
            first.press(list(range(len(pile) - 1)))
            self.assert_lies(second, twin, set(step))
            self.assert_lies(Bench(twin), twin, set())

    def test_two_benches_of_one_list(self):
        pile = grown(20, 8)
        first, second = Bench(pile), Bench(pile)
        first.draw(list(range(19)))
        self.assert_lies(second, pile, set())
        self.assert_stuck(second.press, [0])


class TheAskersOwn(BenchCase):
    def test_a_later_change_of_the_piles_list_changes_nothing(self):
        for pile in ([0], [0, 1], [1, 0, 4, 3, 2], grown(100, 51)):
            handed = list(pile)
            bench = Bench(handed)
            self.assertEqual(handed, pile)
            handed.reverse()
            handed.append(77)
            self.assert_lies(bench, pile, set())
            for step in opening(pile):
                bench.draw(step)
            handed.clear()
            self.assert_lies(bench, pile, set(range(len(pile) - 1)))
            bench.press(list(range(len(pile) - 1)))
            self.assert_lies(bench, pile, set())

    def test_a_later_change_of_the_creases_changes_nothing(self):
        pile = list(range(8))
        bench = Bench(pile)
        creases = [3, 0]
        bench.draw(creases)
        creases.append(5)
        creases[0] = 6
        self.assert_lies(bench, pile, {0, 3})
        closing = [3, 0]
        bench.press(closing)
        closing.clear()
        self.assert_lies(bench, pile, set())

    def test_the_creases_stay_as_they_were(self):
        bench = Bench([0, 2, 3, 4, 5, 1])
        for creases in ([4, 3], [4, 3], [2], [0, 0], [0, 9], [3, 4, 0], [1], []):
            for deed in (bench.draw, bench.press, bench.draw):
                handed = list(creases)
                try:
                    deed(handed)
                except (Stuck, NoCrease):
                    pass
                self.assertEqual(handed, creases)

    def test_the_pile_stays_as_it_was_through_all_deeds(self):
        pile = grown(30, 52)
        handed = list(pile)
        bench = Bench(handed)
        for step in opening(pile):
            bench.draw(step)
        self.assert_stuck(bench.draw, [0])
        bench.parts()
        self.assertEqual(handed, pile)

    def test_a_change_of_what_was_told_changes_nothing(self):
        for pile in ([0], [1, 0, 4, 3, 2], grown(100, 53)):
            bench = Bench(pile)
            opened = set()
            for step in [()] + opening(pile):
                bench.draw(step)
                opened |= set(step)
                loose, parts = bench.loose(), bench.parts()
                loose.append(77)
                loose.reverse()
                for part in parts:
                    part.append(78)
                    part.reverse()
                parts.pop()
                self.assert_lies(bench, pile, opened)

    def test_nothing_later_changes_what_was_told(self):
        pile = grown(20, 54)
        bench = Bench(pile)
        closed_loose, closed_parts = bench.loose(), bench.parts()
        bench.draw(list(range(19)))
        loose, parts = bench.loose(), bench.parts()
        bench.press(list(range(19)))
        self.assertEqual((closed_loose, closed_parts), ([], [pile]))
        self.assertEqual((loose, parts), (list(range(19)), [[stamp] for stamp in range(20)]))


if __name__ == "__main__":
    unittest.main()
