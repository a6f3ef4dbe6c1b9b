"""Making piles: one to a row of letters, and all of a few stamps."""

from stripfold.errors import NoCount, NoLetters
from stripfold.judge import crossing
from stripfold.piles import letters

MOST_STAMPS = 7


def check_row(row):
    if row.count("V") + row.count("M") != len(row):
        raise NoLetters("a row of letters holds V and M alone")


def check_count(many):
    if many < 1 or many > MOST_STAMPS:
        raise NoCount(f"piles are listed for 1 to {MOST_STAMPS} stamps alone")


def pile_of(row):
    check_row(row)
    pile = [0]
    # Each next stamp goes above or beneath all others, as the one before it did. So its crease wraps all the stamps
    # laid before these two, or none of them, and crosses no other crease.
    for crease, sign in enumerate(row):
        rises = (sign == "V") == (crease % 2 == 0)
        if rises:
            pile.append(crease + 1)
        else:
            pile.insert(0, crease + 1)
    return pile


def laid_in(pile, stamp):
    return [pile[:place] + [stamp] + pile[place:] for place in range(len(pile) + 1)]


def piles(many):
    check_count(many)
    found = [[0]]
    # A foldable pile stays foldable when its last stamp is cut off, so every one grows out of a smaller one.
    for stamp in range(1, many):
        grown = []
        for smaller in found:
            grown.extend([pile for pile in laid_in(smaller, stamp) if crossing(pile) is None])
        found = grown
    return found


def piles_with(row):
    check_row(row)
    return [pile for pile in piles(len(row) + 1) if letters(pile) == row]
