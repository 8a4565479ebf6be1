"""Hands, which lay, add, take and push, and go back."""

from beadrods.errors import Nothing
from beadrods.moves import moved
from beadrods.settings import number_on, plain_setting
from beadrods.sums import added, less


class Hand:
    def __init__(self, manner, rods):
        self.now = plain_setting(manner, rods, 0)
        self.manner = manner
        self.past = []

    def setting(self):
        return self.now

    def value(self):
        return number_on(self.manner, self.now)

    def lay(self, number):
        return self.go_on(plain_setting(self.manner, len(self.now), number))

    def add(self, number):
        return self.go_on(added(self.manner, self.now, number))

    def take(self, number):
        return self.go_on(less(self.manner, self.now, number))

    def push(self, move):
        return self.go_on(moved(self.manner, self.now, move))

    # The fresh setting is made ahead of this, so that what is refused changes nothing.
    def go_on(self, fresh):
        self.past.append(self.now)
        self.now = fresh
        return self.value()

    def undo(self):
        if not self.past:
            raise Nothing("there is nothing that could be taken back")
        self.now = self.past.pop()
        return self.value()

    def many(self):
        return len(self.past)
