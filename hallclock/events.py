"""The run by events: the turns that are due are done, all others pass."""

from hallclock.floor import Floor
from hallclock.heap import Heap
from hallclock.looking import need_change
from hallclock.places import has_rule, of_sort
from hallclock.plain import changes_by_turn, doors_by_turn, need_run, turn_done
from hallclock.stations import fixed


# The first turn from this one on that is a multiple.
def multiple_from(turn, every):
    return turn + (-turn) % every


class Run:
    def __init__(self, hall, changes=None):
        need_run(hall, changes)
        self.hall = fixed(hall)
        self.doors = doors_by_turn(hall)
        self.orders = changes_by_turn(changes)
        self.entries = []
        self.looks = []
        self.resume(0, False, Floor(hall))

    # Goes on from things as they stand ahead of a turn.
    def resume(self, turn, amid, floor):
        self.clock = turn
        self.amid = amid
        self.ground = floor
        # Comings, changes and ends are sure as soon as they are known: only these are kept in the heap.
        self.sure = Heap()
        for known in list(self.doors) + list(self.orders):
            self.expect(known)
        for number in range(floor.many()):
            self.expect(floor.ending(number))

    def expect(self, turn):
        if turn is not None and turn >= self.clock:
            self.sure.put((turn,))

    def go(self, turns):
        found = self.due()
        while found is not None and found < turns:
            self.do(found)
            found = self.due()
        self.clock = max(self.clock, turns)

    def do(self, turn):
        entries = turn_done(self.ground, turn, self.orders, self.doors)
        self.entries.extend(entries)
        self.looks.append(turn)
        self.clock = turn + 1
        self.amid = False
        while self.sure.many() > 0 and self.sure.least()[0] <= turn:
            self.sure.take()
        for number in sorted(set([entry[1] for entry in entries])):
            self.expect(self.ground.ending(number))

    def turn(self):
        return self.clock

    def due(self):
        # A change made amid is one told for the next turn.
        if self.amid:
            return self.clock
        turns = self.gate_turns() + self.rest_turns()
        if self.sure.many() > 0:
            turns.append(self.sure.least()[0])
        return min(turns, default=None)

    # When gates open and rests end is looked up anew each time: changes and moves may make it mean nothing.
    # Whoever stands somewhere between turns stands there since an earlier one, so that is not asked for.
    def gate_turns(self):
        turns = []
        for gate in [told for told in self.hall if has_rule(told, "opens")]:
            if self.ground.at(gate[1]) != []:
                every = self.ground.as_it_is(gate[1])[2][1]
                turns.append(multiple_from(self.clock, every))
        return turns

    def rest_turns(self):
        turns = []
        for desk in of_sort(self.hall, "desk"):
            if any([self.ground.where(number)[2] is None for number in self.ground.at(desk[1])]):
                turns.extend([rest[1] for rest in desk[5] if rest[1] >= self.clock])
        return turns

    def changed_amid(self):
        return self.amid

    def stations(self):
        return list(self.hall)

    def looked(self):
        return list(self.looks)

    def book(self):
        return list(self.entries)

    def floor(self):
        return self.ground

    def change(self, change):
        need_change(self.hall, change)
        self.ground.change(change)
        self.amid = True
