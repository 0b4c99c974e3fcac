"""Plain steps: every turn is done, one behind another."""

from hallclock.floor import Floor
from hallclock.looking import comings, need_changes, need_hall
from hallclock.places import of_sort


def need_run(hall, changes):
    need_hall(hall)
    if changes is not None:
        need_changes(hall, changes)


# By turn the doors at which somebody comes, in the order of the hall, a door once for each who comes.
def doors_by_turn(hall):
    doors = {}
    for door in of_sort(hall, "door"):
        for turn in comings(door):
            doors.setdefault(turn, []).append(door[1])
    return doors


def changes_by_turn(changes):
    orders = {}
    if changes is not None:
        for turn, change in changes:
            orders.setdefault(turn, []).append(change)
    return orders


def first_who_can(floor, turn):
    for number in range(floor.many()):
        if floor.can(number, turn):
            return number
    return None


def turn_done(floor, turn, orders, doors):
    for change in orders.get(turn, []):
        floor.change(change)
    entries = []
    for name in doors.get(turn, []):
        entries.append((turn, floor.come(name, turn), "comes", name))
    number = first_who_can(floor, turn)
    while number is not None:
        deed = floor.move(number, turn)
        entries.append((turn, number, deed[0], deed[1]))
        number = first_who_can(floor, turn)
    return entries


class Plain:
    def __init__(self, hall, changes=None):
        need_run(hall, changes)
        self.ground = Floor(hall)
        self.doors = doors_by_turn(hall)
        self.orders = changes_by_turn(changes)
        self.clock = 0
        self.entries = []

    def step(self):
        entries = turn_done(self.ground, self.clock, self.orders, self.doors)
        self.entries.extend(entries)
        self.clock += 1
        return entries

    def turn(self):
        return self.clock

    def book(self):
        return list(self.entries)

    def floor(self):
        return self.ground
