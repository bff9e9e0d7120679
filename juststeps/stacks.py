"""Stacks of words of which most may be 0: only words that were written are kept, so that tall stacks cost nothing."""

from heapq import heappop, heappush


class Stack:
    """A stack of that height.

    kept has the words that were written, by their places from the bottom; places has the opposites of these places
    as a heap, so that the topmost one is found first.
    """

    def __init__(self):
        self.height = 0
        self.kept = {}
        self.places = []

    def grow(self, many):
        """Puts so many words, each 0, on the stack."""
        self.height += many

    def shrink(self, many):
        """Takes so many words off the stack, which has them."""
        self.height -= many
        while self.places and -self.places[0] >= self.height:
            place = -heappop(self.places)
            del self.kept[place]

    def word(self, i):
        """The i-th word from the top."""
        return self.kept.get(self.height - 1 - i, 0)

    def write(self, i, word):
        """Makes a word the i-th one from the top."""
        place = self.height - 1 - i
        if place not in self.kept:
            heappush(self.places, -place)
        self.kept[place] = word

    def twin(self):
        """Another stack with the same words."""
        other = Stack()
        other.height = self.height
        other.kept = dict(self.kept)
        other.places = list(self.places)
        return other
