"""Drawing piles apart: which open creases are free, and steps that open them all."""

from stripfold.errors import NoCrease
from stripfold.judge import foldable_places, wraps


def check_creases(stamps, creases):
    for crease in creases:
        if crease < 0 or crease > stamps - 2:
            raise NoCrease("a number that is handed in is no crease of the pile")
    if len(set(creases)) != len(creases):
        raise NoCrease("a crease is handed in twice")


# The open creases come rising here, so that parts and open creases go along the strip side by side.
def ends_of_parts(stamps, opened):
    firsts = [0] + [crease + 1 for crease in opened]
    lasts = opened + [stamps - 1]
    return list(zip(firsts, lasts))


def creases_like(side, first, last):
    return [crease for crease in range(first, last) if crease % 2 == side % 2]


def wrapped_within(at, stamp, side, ends):
    return any([wraps(at, crease, stamp) for crease in creases_like(side, ends[0], ends[1])])


def inner_parts_odd(parts):
    return all([(last - first) % 2 == 0 for first, last in parts[1:-1]])


def lies_free(at, opened):
    parts = ends_of_parts(len(at), opened)
    if not inner_parts_odd(parts):
        return False
    for crease, before, behind in zip(opened, parts, parts[1:]):
        if wrapped_within(at, crease, crease, before) or wrapped_within(at, crease + 1, crease, behind):
            return False
    return True


def free(pile, creases):
    at = foldable_places(pile)
    check_creases(len(at), creases)
    return lies_free(at, sorted(creases))


def widest_like(at, side, first, last):
    return max(creases_like(side, first, last), key=lambda crease: abs(at[crease + 1] - at[crease]))


def step_within(at, first, last):
    end = len(at) - 1
    if first > 0 and last < end:
        # One crease by itself would leave an inner part with an even number of stamps.
        one = widest_like(at, first, first, last)
        return (one, widest_like(at, one + 1, one + 1, last))
    if last < end:
        # The open crease is the one numbered last, and the side other than its own is due.
        return (widest_like(at, last + 1, first, last),)
    # Behind the open crease first - 1 the other side is the one of first; in the whole strip, from 0, the even one is.
    return (widest_like(at, first, first, last),)


def opening(pile):
    at = foldable_places(pile)
    steps = []
    opened = []
    while len(opened) < len(at) - 1:
        parts = ends_of_parts(len(at), sorted(opened))
        # A step changes no part but its own, so all parts of one round may take theirs in turn.
        for first, last in parts:
            if first < last:
                step = step_within(at, first, last)
                steps.append(step)
                opened.extend(step)
    return steps
