"""The floor: where visitors stand, who can move, and what a move does."""

from hallclock.places import of_sort
from hallclock.stations import fixed


class Visitor:
    def __init__(self, rank):
        self.rank = rank
        self.station = None
        self.since = None
        self.until = None
        self.things = {}


def changed(told, change):
    word = change[0]
    parts = list(told)
    if word == "takes":
        parts[3] = tuple(change[2])
    elif word == "opens":
        parts[2] = ("opens", change[2], change[3])
    elif word == "below":
        parts[2] = ("below", change[2], told[2][2])
    else:
        parts[2] = change[2]
    return tuple(parts)


def rests_at(desk, turn):
    return any([rest[0] <= turn < rest[1] for rest in desk[5]])


class Floor:
    def __init__(self, hall):
        self.plan = {}
        self.standing = {}
        self.tallies = {}
        self.stock = {}
        self.people = []
        for told in fixed(hall):
            self.plan[told[1]] = told
            self.standing[told[1]] = []
            # How many ever moved from a fork, or were ever begun to be served at a desk.
            self.tallies[told[1]] = 0
        for pool in of_sort(hall, "pool"):
            self.stock[pool[1]] = pool[2]

    def come(self, name, turn):
        number = len(self.people)
        self.people.append(Visitor(self.plan[name][2]))
        self.enter(number, name, turn)
        return number

    def enter(self, number, name, turn):
        visitor = self.people[number]
        visitor.station = name
        visitor.since = turn
        visitor.until = None
        self.standing[name].append(number)

    def can(self, number, turn):
        visitor = self.people[number]
        told = self.plan[visitor.station]
        sort = told[0]
        if sort == "exit":
            return False
        if sort == "way":
            return turn >= visitor.since + told[2]
        if sort == "desk":
            return self.can_at_desk(number, told, turn)
        if sort == "gate":
            return self.lets_by(told[2], turn)
        if sort == "lend":
            return self.stock[told[2]] > 0
        return True

    def lets_by(self, rule, turn):
        if rule[0] == "opens":
            return turn % rule[1] < rule[2]
        return len(self.standing[rule[2]]) < rule[1]

    def can_at_desk(self, number, desk, turn):
        visitor = self.people[number]
        if visitor.until is not None:
            return turn >= visitor.until
        waiting = [other for other in self.standing[desk[1]] if self.people[other].until is None]
        served = len(self.standing[desk[1]]) - len(waiting)
        return served < desk[2] and not rests_at(desk, turn) and self.foremost(waiting, desk[4]) == number

    def foremost(self, waiting, ranked):
        first = waiting[0]
        if ranked:
            for number in waiting:
                if self.people[number].rank > self.people[first].rank:
                    first = number
        return first

    def move(self, number, turn):
        visitor = self.people[number]
        told = self.plan[visitor.station]
        if told[0] == "desk" and visitor.until is None:
            return self.begin(visitor, told, turn)
        then = self.next_of(told, number)
        if told[0] == "fork":
            self.tallies[told[1]] += 1
        if told[0] == "lend":
            self.stock[told[2]] -= 1
            visitor.things[told[2]] = True
        if told[0] == "give":
            self.stock[told[2]] += 1
            visitor.things.pop(told[2])
        self.standing[told[1]].remove(number)
        self.enter(number, then, turn)
        return ("enters", then)

    def begin(self, visitor, desk, turn):
        takes = desk[3]
        visitor.until = turn + takes[self.tallies[desk[1]] % len(takes)]
        self.tallies[desk[1]] += 1
        return ("begins", desk[1])

    def next_of(self, told, number):
        if told[0] != "fork":
            return told[-1]
        thens = told[3]
        if told[2] == "turns":
            return thens[self.tallies[told[1]] % len(thens)]
        if told[2] == "number":
            return thens[number % len(thens)]
        return min(thens, key=lambda then: len(self.standing[then]))

    def where(self, number):
        visitor = self.people[number]
        return (visitor.station, visitor.since, visitor.until)

    def at(self, name):
        return list(self.standing[name])

    def held(self, number):
        return [pool for pool in self.stock if pool in self.people[number].things]

    def left(self, pool):
        return self.stock[pool]

    def many(self):
        return len(self.people)

    def change(self, change):
        if change[0] == "holds":
            self.stock[change[1]] += change[2]
        else:
            self.plan[change[1]] = changed(self.plan[change[1]], change)

    def as_it_is(self, name):
        return self.plan[name]

    def tally(self, name):
        return self.tallies[name]

    def rank_of(self, number):
        return self.people[number].rank

    # The turn at which a way's or a service's time ends for a visitor: it is sure as soon as it is known.
    def ending(self, number):
        visitor = self.people[number]
        told = self.plan[visitor.station]
        if told[0] == "way":
            return visitor.since + told[2]
        return visitor.until

    # The deeds behind here put a floor as it stood when a run was kept.
    def set_tally(self, name, many):
        self.tallies[name] = many

    def set_left(self, pool, many):
        self.stock[pool] = many

    def seat(self, rank, stand, pools):
        visitor = Visitor(rank)
        visitor.station = stand[0]
        visitor.since = stand[1]
        visitor.until = stand[2]
        for pool in pools:
            visitor.things[pool] = True
        self.people.append(visitor)

    def line_up(self, name, numbers):
        self.standing[name] = list(numbers)
