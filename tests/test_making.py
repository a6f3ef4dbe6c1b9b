import inspect
import unittest
from itertools import product

from stripfold.errors import NoCount, NoLetters
from stripfold.making import pile_of, piles, piles_with
from tests.samples import GREAT, dice, foldable_piles, plain_crossings, plain_letters

COUNTS = {1: 1, 2: 2, 3: 6, 4: 16, 5: 50, 6: 144, 7: 462}
OTHER_SIGNS = [chr(code) for code in range(ord(" "), ord("~") + 1) if chr(code) not in "VM%"]


def rows(size):
    return ["".join(row) for row in product("VM", repeat=size)]


def changing(size, every):
    return "".join("VM"[(k // every) % 2] for k in range(size))


def swapped(row):
    return "".join("M" if sign == "V" else "V" for sign in row)


def mixed_row(size, seed):
    throws = dice(seed)
    return "".join("VM"[next(throws) % 2] for k in range(size))


def long_rows():
    found = [changing(99, every) for every in (1, 2, 3, 4, 5, 7, 10, 13, 33, 49, 50, 98, 99)]
    found += [swapped(row) for row in found]
    found += [mixed_row(99, seed) for seed in range(20)]
    found += ["V" * k + "M" + "V" * (98 - k) for k in range(99)] + ["M" * k + "V" + "M" * (98 - k) for k in range(99)]
    found += [mixed_row(size, size) for size in range(9, 99)]
    return found


def as_tuples(told):
    return sorted(tuple(pile) for pile in told)


class Arguments(unittest.TestCase):
    def test_names(self):
        self.assertEqual(str(inspect.signature(pile_of)), "(row)")
        self.assertEqual(str(inspect.signature(piles)), "(many)")
        self.assertEqual(str(inspect.signature(piles_with)), "(row)")


class PileOf(unittest.TestCase):
    def assert_made(self, row):
        told = pile_of(row)
        self.assertIs(type(told), list, row)
        self.assertTrue(all(type(stamp) is int for stamp in told), row)
        self.assertEqual(sorted(told), list(range(len(row) + 1)), row)
        self.assertEqual(plain_letters(told), row)
        self.assertEqual(plain_crossings(told), set(), row)

    def test_the_row_without_letters(self):
        self.assertEqual(pile_of(""), [0])

    def test_one_letter(self):
        self.assertEqual(pile_of("V"), [0, 1])
        self.assertEqual(pile_of("M"), [1, 0])

    def test_all_rows_of_up_to_9_letters(self):
        for size in range(10):
            for row in rows(size):
                self.assert_made(row)

    def test_long_rows(self):
        for row in long_rows():
            self.assert_made(row)

    def test_somewhat_beyond_99_letters(self):
        for size in (100, 101, 120):
            for row in ("V" * size, changing(size, 1), mixed_row(size, 5)):
                self.assert_made(row)


class OtherSigns(unittest.TestCase):
    def assert_refused(self, row):
        for ask in (pile_of, piles_with):
            with self.assertRaises(NoLetters, msg=(ask.__name__, row)):
                ask(row)

    def test_each_by_itself_and_in_short_rows(self):
        for sign in OTHER_SIGNS:
            for row in (sign, sign + "V", "V" + sign, "M" + sign + "V", "VMVMV" + sign, sign * 2, sign * 6):
                self.assert_refused(row)

    def test_small_letters_and_blanks(self):
        for row in ("v", "m", "vm", "Vm", "vM", " ", "  ", " VM", "VM ", "V M", "W", "N", "VMW", "V,M", "0", "\"V\""):
            self.assert_refused(row)

    def test_each_at_any_place_of_99(self):
        for place in range(99):
            for sign in OTHER_SIGNS:
                self.assert_refused(changing(place, 2) + sign + changing(98 - place, 3))

    def test_99_of_them(self):
        for sign in OTHER_SIGNS:
            self.assert_refused(sign * 99)

    def test_refused_ahead_of_the_count(self):
        for size in (7, 8, 50, 99):
            for place in (0, size // 2, size - 1):
                row = "V" * place + "x" + "M" * (size - 1 - place)
                with self.assertRaises(NoLetters):
                    piles_with(row)


class AllPiles(unittest.TestCase):
    def assert_piles(self, told):
        self.assertIs(type(told), list)
        for pile in told:
            self.assertIs(type(pile), list)
            self.assertTrue(all(type(stamp) is int for stamp in pile), pile)

    def test_just_the_foldable_ones_each_once(self):
        every = foldable_piles(7)
        for many, count in COUNTS.items():
            told = piles(many)
            self.assert_piles(told)
            self.assertEqual(len(told), count)
            self.assertEqual(as_tuples(told), as_tuples(pile for pile in every if len(pile) == many))

    def test_by_hand(self):
        self.assertEqual(piles(1), [[0]])
        self.assertEqual(as_tuples(piles(2)), [(0, 1), (1, 0)])

    def test_just_those_with_the_letters(self):
        every = foldable_piles(7)
        for size in range(7):
            counted = 0
            for row in rows(size):
                told = piles_with(row)
                self.assert_piles(told)
                wanted = [pile for pile in every if len(pile) == size + 1 and plain_letters(pile) == row]
                self.assertEqual(as_tuples(told), as_tuples(wanted), row)
                self.assertIn(pile_of(row), told)
                counted += len(told)
            self.assertEqual(counted, COUNTS[size + 1])

    def test_other_numbers_are_refused(self):
        wrong = [0, 8, 9, 10, 99, 100, 101, 2 ** 31, 2 ** 32 + 1, 2 ** 63, 2 ** 64, 2 ** 64 + 3, 10 ** 50, GREAT,
                 10 ** 199, 10 ** 199 + 1, 10 ** 205]
        for many in wrong + [-number for number in wrong] + list(range(-9, 0)):
            with self.subTest(many=many):
                with self.assertRaises(NoCount):
                    piles(many)

    def test_rows_of_more_than_six_letters_are_refused(self):
        for row in rows(7) + long_rows() + ["V" * 8, "V" * 120]:
            with self.assertRaises(NoCount, msg=row):
                piles_with(row)


class TheAskersOwn(unittest.TestCase):
    def assert_own(self, ask):
        told = ask()
        kept = [list(pile) for pile in told]
        again = ask()
        for pile in told:
            pile.reverse()
            pile.append(77)
        told.append([78])
        self.assertEqual(again, kept)
        self.assertEqual(as_tuples(ask()), as_tuples(kept))

    def test_lists_of_piles(self):
        for many in COUNTS:
            self.assert_own(lambda: piles(many))
        for row in ("", "V", "MV", "VVVVVV", "MVVMMV"):
            self.assert_own(lambda: piles_with(row))

    def test_one_told_does_not_hang_together_with_another(self):
        told = piles(4)
        told[0].append(77)
        self.assertTrue(all(len(pile) == 4 for pile in told[1:]))
        kept = [list(pile) for pile in told]
        piles(5)
        piles_with("VMV")
        self.assertEqual(told, kept)

    def test_a_made_pile(self):
        for row in ("", "V", "MVM", "V" * 99, mixed_row(99, 3)):
            told = pile_of(row)
            told.reverse()
            told.append(77)
            later = pile_of(row)
            self.assertEqual(sorted(later), list(range(len(row) + 1)))
            self.assertEqual(plain_letters(later), row)
            kept = list(later)
            pile_of(swapped(row))
            self.assertEqual(later, kept)


if __name__ == "__main__":
    unittest.main()
