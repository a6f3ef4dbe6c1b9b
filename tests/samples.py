"""Piles for the tests, and the words of points 3 to 6 reckoned plainly."""

from itertools import combinations, permutations
from math import gcd

GREAT = 10 ** 200 - 1

NO_PILES = {
    "without members": [[]],
    "told twice": [[0, 0], [0, 1, 1], [0, 1, 0], [2, 0, 1, 2], list(range(99)) + [0], [98] + list(range(99))],
    "too great": [[1], [2], [0, 2], [2, 1], [3, 1, 0], [GREAT], [0, GREAT], [GREAT, 1, 0], [0, 10 ** 150, 1],
                  list(range(99)) + [100], [0, 2 ** 64], [0, 2 ** 63 + 1]],
    "below nought": [[-1], [0, -1], [-1, 0], [-2, -1], [0, 1, -1], [0, -2, 2], [-GREAT], [0, -GREAT], [-GREAT, 1, 0],
                     list(range(99)) + [-1]],
    "missing": [[1, 2, 3], [0, 2, 3], [3, 1, 0, 4], list(range(1, 101)), [n for n in range(101) if n != 50]],
}


def all_piles(most):
    """Every order of 1 to most stamps."""
    return [list(order) for size in range(1, most + 1) for order in permutations(range(size))]


def strided(size):
    """Orders that go round the strip in even strides, from several first stamps."""
    strides = [step for step in (1, 3, 7, 37, size - 1) if step > 0 and gcd(step, size) == 1]
    return [[(first + k * step) % size for k in range(size)] for step in strides for first in (0, size // 3, size - 1)]


def mixed(size):
    """An order without a plain rule: the stamps by their cubes in a field that has a cube of its own for each."""
    return sorted(range(size), key=lambda stamp: ((stamp + 5) ** 3) % 107)


def large_piles():
    piles = [[0]]
    for size in (2, 3, 8, 19, 50, 64, 99, 100):
        piles += strided(size) + [mixed(size), mixed(size)[::-1]]
    return piles


def plain_letter(pile, crease):
    lower, upper = pile.index(crease), pile.index(crease + 1)
    if crease % 2 == 0:
        return "V" if upper > lower else "M"
    return "V" if upper < lower else "M"


def plain_wrapped(pile, crease):
    """The stamps that lie between the crease's own two."""
    ends = sorted([pile.index(crease), pile.index(crease + 1)])
    return pile[ends[0] + 1:ends[1]]


def plain_crossings(pile):
    """Every pair of creases that cross, by the words of point 6."""
    wrapped = [set(plain_wrapped(pile, crease)) for crease in range(len(pile) - 1)]
    return {
        (one, other)
        for one, other in combinations(range(len(pile) - 1), 2)
        if one % 2 == other % 2 and len(wrapped[one] & {other, other + 1}) == 1
    }
