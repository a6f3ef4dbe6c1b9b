"""Which piles can be folded: creases of one side that cross."""

from stripfold.errors import Crossing
from stripfold.piles import places


def wraps(at, crease, stamp):
    low = min(at[crease], at[crease + 1])
    high = max(at[crease], at[crease + 1])
    return low < at[stamp] and at[stamp] < high


def cross(at, one, other):
    return wraps(at, one, other) != wraps(at, one, other + 1)


def crossing(pile):
    at = places(pile)
    creases = len(at) - 1
    for one in range(creases):
        # Only creases at the same side of the pile can cross: those an even number apart.
        for other in range(one + 2, creases, 2):
            if cross(at, one, other):
                return (one, other)
    return None


def foldable_places(pile):
    pair = crossing(pile)
    if pair is not None:
        raise Crossing(pair[0], pair[1])
    return places(pile)
