"""Benches, which keep settings under names, and go back and forth."""

from beadrods.errors import NoName, Nothing
from beadrods.moves import moved
from beadrods.settings import number_on, plain_setting
from beadrods.sums import added, less

MOST_LETTERS = 6


def is_name(thing):
    if not isinstance(thing, str) or not 1 <= len(thing) <= MOST_LETTERS:
        return False
    return all(["a" <= letter <= "z" for letter in thing])


class Bench:
    # What is kept is never changed where it lies, but replaced: so steps and twins can hold on to it.
    def __init__(self, manner, rods):
        self.now = plain_setting(manner, rods, 0)
        self.manner = manner
        self.kept = {}
        self.done = []
        self.undone = []

    def setting(self):
        return self.now

    def value(self):
        return number_on(self.manner, self.now)

    def add(self, number):
        return self.go_on("add", added(self.manner, self.now, number), self.kept)

    def take(self, number):
        return self.go_on("take", less(self.manner, self.now, number), self.kept)

    def push(self, move):
        return self.go_on("push", moved(self.manner, self.now, move), self.kept)

    def keep(self, name):
        if not is_name(name):
            raise NoName("a name is a text of 1 to 6 letters from a to z")
        kept = dict(self.kept)
        kept[name] = self.now
        return self.go_on("keep", self.now, kept)

    # What is no name can be a list, of which no dict can be asked.
    def recall(self, name):
        if not is_name(name) or name not in self.kept:
            raise NoName("nothing is kept under this name")
        return self.go_on("recall", self.kept[name], self.kept)

    def names(self):
        return sorted(self.kept)

    # What is fresh is made ahead of this, so that what is refused changes nothing.
    def go_on(self, word, fresh, kept):
        self.done.append((word, self.now, self.kept))
        self.undone.clear()
        self.now = fresh
        self.kept = kept
        return self.value()

    def back(self):
        return self.cross(self.done, self.undone)

    def forth(self):
        return self.cross(self.undone, self.done)

    # A step that was done holds how it was ahead of it, one that was taken back how it was behind it.
    def cross(self, source, goal):
        if not source:
            raise Nothing("there is no such step")
        step = source.pop()
        goal.append((step[0], self.now, self.kept))
        self.now = step[1]
        self.kept = step[2]
        return step[0]

    def steps(self):
        return (len(self.done), len(self.undone))

    def twin(self):
        other = Bench(self.manner, len(self.now))
        other.now = self.now
        other.kept = self.kept
        other.done = list(self.done)
        other.undone = list(self.undone)
        return other
