"""A heap: of the items that are there the least one is at hand."""


class Heap:
    def __init__(self):
        # No item is less than the one at half its place: so the least one is at 0.
        self.pile = []

    def many(self):
        return len(self.pile)

    def least(self):
        return None if self.pile == [] else self.pile[0]

    def put(self, item):
        self.pile.append(item)
        place = len(self.pile) - 1
        while place > 0 and self.pile[place] < self.pile[(place - 1) // 2]:
            self.swap(place, (place - 1) // 2)
            place = (place - 1) // 2

    def take(self):
        if self.pile == []:
            return None
        self.swap(0, len(self.pile) - 1)
        item = self.pile.pop()
        self.sink(0)
        return item

    def swap(self, one, other):
        item = self.pile[one]
        self.pile[one] = self.pile[other]
        self.pile[other] = item

    def sink(self, place):
        lesser = self.lesser_below(place)
        while lesser != place:
            self.swap(place, lesser)
            place = lesser
            lesser = self.lesser_below(place)

    def lesser_below(self, place):
        lesser = place
        for below in (2 * place + 1, 2 * place + 2):
            if below < len(self.pile) and self.pile[below] < self.pile[lesser]:
                lesser = below
        return lesser
