"""A weaver has hands that take the deeds handed in and do them on one shelf, a step a move."""

from sidelink.errors import NoHand
from sidelink.walks import Walk


class Weaver:
    def __init__(self, shelf, hands):
        self.shelf = shelf
        self.deeds = []
        # Deeds are taken in the order of their numbers, so this is the lowest number that waits.
        self.taken = 0
        # For each hand None or a tuple (deed's number, walk).
        self.held = [None] * hands
        self.done = []

    def hand_in(self, deed):
        self.deeds.append(deed)
        return len(self.deeds) - 1

    def move(self, hand):
        # A list would take numbers below 0 as counted from its end.
        if not 0 <= hand < len(self.held):
            raise NoHand("no hand has this number")
        if self.held[hand] is not None:
            return self.step_walk(hand)
        if self.taken < len(self.deeds):
            return self.take_deed(hand)
        return ("rest", hand)

    def take_deed(self, hand):
        number = self.taken
        self.held[hand] = (number, Walk(self.shelf, self.deeds[number]))
        self.taken += 1
        return ("take", hand, number)

    def step_walk(self, hand):
        holding = self.held[hand]
        walk = holding[1]
        told = walk.step()
        if walk.over():
            self.held[hand] = None
            self.done.append(holding)
        return (told[0], hand, holding[0]) + told[1:]

    def finish(self):
        rows = []
        hand = 0
        while not self.idle():
            rows.append(self.move(hand))
            hand = (hand + 1) % len(self.held)
        return rows

    def answers(self):
        # Asked of the walks anew each time, so that each list told is the asker's own.
        return [(holding[0], holding[1].answer()) for holding in self.done]

    def change_shelf(self, shelf):
        # Only for a weaver that is idle: a walk stays on the shelf on which it was begun.
        self.shelf = shelf

    def idle(self):
        return self.taken == len(self.deeds) and all([holding is None for holding in self.held])
