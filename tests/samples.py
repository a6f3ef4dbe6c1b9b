"""Piles for the tests, and the words of points 3 to 11 reckoned plainly."""

from functools import lru_cache
from itertools import chain, combinations, permutations
from math import gcd

GREAT = 10 ** 200 - 1

NO_PILES = {
    "without members": [[]],
    "told twice": [[0, 0], [0, 1, 1], [0, 1, 0], [2, 0, 1, 2], list(range(99)) + [0], [98] + list(range(99))],
    "too great": [[1], [2], [0, 2], [2, 1], [3, 1, 0], [GREAT], [0, GREAT], [GREAT, 1, 0], [0, 10 ** 150, 1],
                  list(range(99)) + [100], [0, 2 ** 64], [0, 2 ** 63 + 1]],
    "below nought": [[-1], [0, -1], [-1, 0], [-2, -1], [0, 1, -1], [0, -2, 2], [-GREAT], [0, -GREAT], [-GREAT, 1, 0],
                     list(range(99)) + [-1]],
    "missing": [[1, 2, 3], [0, 2, 3], [3, 1, 0, 4], list(range(1, 101)), [n for n in range(101) if n != 50]],
}


def all_piles(most):
    """Every order of 1 to most stamps."""
    return [list(order) for size in range(1, most + 1) for order in permutations(range(size))]


def strided(size):
    """Orders that go round the strip in even strides, from several first stamps."""
    strides = [step for step in (1, 3, 7, 37, size - 1) if step > 0 and gcd(step, size) == 1]
    return [[(first + k * step) % size for k in range(size)] for step in strides for first in (0, size // 3, size - 1)]


def mixed(size):
    """An order without a plain rule: the stamps by their cubes in a field that has a cube of its own for each."""
    return sorted(range(size), key=lambda stamp: ((stamp + 5) ** 3) % 107)


def large_piles():
    piles = [[0]]
    for size in (2, 3, 8, 19, 50, 64, 99, 100):
        piles += strided(size) + [mixed(size), mixed(size)[::-1]]
    return piles


def dice(seed):
    """A row of numbers without a plain rule, the same at each run."""
    while True:
        seed = (seed * 1103515245 + 12345) % 2 ** 31
        yield seed >> 12


def gaps_for_next(pile):
    """Where the next stamp can be laid in so that its crease crosses none: each gap walked to from the last stamp."""
    last = len(pile) - 1
    start = pile.index(last)
    gaps = []
    for first_gap, way, walk in ((start + 1, 1, pile[start + 1:]), (start, -1, pile[:start][::-1])):
        halves = set()
        gaps.append(first_gap)
        for steps, stamp in enumerate(walk, start=1):
            crease = stamp if stamp % 2 == last % 2 else stamp - 1
            if crease >= 0:
                halves ^= {crease}
            if not halves:
                gaps.append(first_gap + way * steps)
    return gaps


def grown(size, seed):
    """A foldable pile whose stamps were laid in one after another wherever the dice said."""
    throws = dice(seed)
    pile = [0]
    while len(pile) < size:
        gaps = gaps_for_next(pile)
        pile.insert(gaps[next(throws) % len(gaps)], len(pile))
    return pile


def halved(size):
    """The pile of a strip folded in half over and over, cut to a size."""
    layers = [[stamp] for stamp in range(128)]
    while len(layers) > 1:
        half = len(layers) // 2
        layers = [layers[k] + layers[-1 - k][::-1] for k in range(half)]
    return [stamp for stamp in layers[0] if stamp < size]


def rolled(size):
    """A spiral: each stamp lies outside all those before it, at the top and beneath by turns."""
    pile = [0]
    for stamp in range(1, size):
        pile.insert(0 if stamp % 2 else len(pile), stamp)
    return pile


@lru_cache(maxsize=None)
def kept_foldable(most):
    return tuple(tuple(pile) for pile in all_piles(most) if not plain_crossings(pile))


def foldable_piles(most):
    """Every foldable pile of 1 to most stamps."""
    return [list(pile) for pile in kept_foldable(most)]


@lru_cache(maxsize=None)
def kept_chosen():
    piles = []
    for size in (8, 9, 20, 33, 64, 99, 100):
        piles += [list(range(size)), list(range(size))[::-1], rolled(size), rolled(size)[::-1], halved(size)]
        piles += [grown(size, seed) for seed in (1, 2, 3)]
        piles.append(grown(size, 4)[size // 3:] + grown(size, 4)[:size // 3])
    return tuple(tuple(pile) for pile in piles)


def chosen_foldable():
    """Foldable piles of 8 to 100 stamps."""
    return [list(pile) for pile in kept_chosen()]


def subsets(members):
    members = list(members)
    return list(chain.from_iterable(combinations(members, size) for size in range(len(members) + 1)))


def diced_subsets(size, many, seed):
    """Sets of some of the numbers below a size, thin ones and thick ones."""
    throws = dice(seed)
    return [[n for n in range(size) if next(throws) % 8 < 1 + k % 7] for k in range(many)]


def plain_letter(pile, crease):
    lower, upper = pile.index(crease), pile.index(crease + 1)
    if crease % 2 == 0:
        return "V" if upper > lower else "M"
    return "V" if upper < lower else "M"


def plain_letters(pile):
    return "".join(plain_letter(pile, crease) for crease in range(len(pile) - 1))


def plain_wrapped(pile, crease):
    """The stamps that lie between the crease's own two."""
    ends = sorted([pile.index(crease), pile.index(crease + 1)])
    return pile[ends[0] + 1:ends[1]]


def plain_crossings(pile):
    """Every pair of creases that cross, by the words of point 6."""
    wrapped = [set(plain_wrapped(pile, crease)) for crease in range(len(pile) - 1)]
    return {
        (one, other)
        for one, other in combinations(range(len(pile) - 1), 2)
        if one % 2 == other % 2 and len(wrapped[one] & {other, other + 1}) == 1
    }


def plain_runs(pile, opened):
    """The parts along the strip, each as its stamps along the strip, by the words of point 10."""
    runs = [[0]]
    for stamp in range(1, len(pile)):
        if stamp - 1 in opened:
            runs.append([])
        runs[-1].append(stamp)
    return runs


def plain_parts(pile, opened):
    return [sorted(run, key=pile.index) for run in plain_runs(pile, opened)]


def plain_free(pile, opened):
    """By the words of point 11."""
    runs = plain_runs(pile, opened)
    if any(len(run) % 2 == 0 for run in runs if run[0] - 1 in opened and run[-1] in opened):
        return False
    for run in runs:
        ends = [(run[0], run[0] - 1), (run[-1], run[-1])]
        for stamp, crease in ends:
            if crease not in opened:
                continue
            for other in run[:-1]:
                if other % 2 == crease % 2 and stamp in plain_wrapped(pile, other):
                    return False
    return True
