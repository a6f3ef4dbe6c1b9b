"""Piles: where their stamps lie, the letters of their creases, and turning."""

from stripfold.errors import NoPile


def check_pile(pile):
    if len(pile) == 0 or sorted(pile) != list(range(len(pile))):
        raise NoPile("a pile holds each number from 0 to one below its size just once, and at least one")


def places(pile):
    check_pile(pile)
    found = [0] * len(pile)
    for place, stamp in enumerate(pile):
        found[stamp] = place
    return found


def letter(at, crease):
    rises = at[crease + 1] > at[crease]
    # Odd creases are seen from the other face, so there the same way of going reads as the other letter.
    return "V" if rises == (crease % 2 == 0) else "M"


def letters(pile):
    at = places(pile)
    return "".join([letter(at, crease) for crease in range(len(at) - 1)])


def turned(pile, by=1):
    check_pile(pile)
    # Whole rounds leave the pile as it was, so a number of any greatness, below nought too, comes down to one round.
    shift = by % len(pile)
    return pile[shift:] + pile[:shift]
