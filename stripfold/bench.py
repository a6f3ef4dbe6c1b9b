"""The bench: one pile, drawn apart and pressed together."""

from stripfold.errors import Stuck
from stripfold.judge import foldable_places
from stripfold.opening import check_creases, ends_of_parts, lies_free


class Bench:
    def __init__(self, pile):
        self.at = foldable_places(pile)
        # A copy, since the asker may change the list later.
        self.pile = list(pile)
        self.opened = []

    def draw(self, creases):
        check_creases(len(self.at), creases)
        if any([crease in self.opened for crease in creases]):
            raise Stuck("a crease that is to be drawn is open already")
        self.settle(self.opened + list(creases))

    def press(self, creases):
        check_creases(len(self.at), creases)
        if not all([crease in self.opened for crease in creases]):
            raise Stuck("a crease that is to be pressed is closed already")
        self.settle([crease for crease in self.opened if crease not in creases])

    def settle(self, creases):
        rising = sorted(creases)
        if not lies_free(self.at, rising):
            raise Stuck("the open creases would not be free")
        self.opened = rising

    def loose(self):
        return list(self.opened)

    def parts(self):
        return [self.part_between(first, last) for first, last in ends_of_parts(len(self.at), self.opened)]

    def part_between(self, first, last):
        return [stamp for stamp in self.pile if first <= stamp and stamp <= last]
