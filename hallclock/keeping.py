"""A run kept as a text, and woken from it."""

from hallclock.errors import BadChange, BadKept
from hallclock.events import Run
from hallclock.floor import Floor
from hallclock.looking import need_change
from hallclock.places import by_name, of_sort
from hallclock.plain import doors_by_turn
from hallclock.words import is_number_upto

KEPT_FIGURES = 9


def row(parts):
    return " ".join([str(part) for part in parts])


def turn_row(run):
    parts = ["turn", run.turn()]
    if run.changed_amid():
        parts.append("changed")
    return row(parts)


def fork_row(floor, name):
    return row(["fork", name, floor.as_it_is(name)[2], floor.tally(name)])


def desk_row(floor, name):
    desk = floor.as_it_is(name)
    return row(["desk", name, desk[2], floor.tally(name)] + list(desk[3]))


# Behind the number of a rule with below stands a name, which no change puts otherwise.
def gate_numbers(gate):
    rule = gate[2]
    return list(rule[1:]) if rule[0] == "opens" else [rule[1]]


def gate_row(floor, name):
    return row(["gate", name] + gate_numbers(floor.as_it_is(name)))


def visitor_row(floor, number):
    stand = floor.where(number)
    until = "-" if stand[2] is None else stand[2]
    place = floor.at(stand[0]).index(number)
    return row(["v", number, floor.rank_of(number), stand[0], stand[1], until, place] + floor.held(number))


def kept(run):
    floor = run.floor()
    hall = run.stations()
    rows = [turn_row(run)]
    rows.extend([fork_row(floor, fork[1]) for fork in of_sort(hall, "fork")])
    rows.extend([desk_row(floor, desk[1]) for desk in of_sort(hall, "desk")])
    rows.extend([gate_row(floor, gate[1]) for gate in of_sort(hall, "gate")])
    rows.extend([row(["pool", pool[1], floor.left(pool[1])]) for pool in of_sort(hall, "pool")])
    rows.extend([visitor_row(floor, number) for number in range(floor.many())])
    return "\n".join(rows)


def need(good):
    if not good:
        raise BadKept("no text of a run of this hall that was kept")


def number_of(word):
    need(is_number_upto(word, KEPT_FIGURES))
    return int(word)


def numbers_of(parts):
    return tuple([number_of(part) for part in parts])


class Waker:
    def __init__(self, hall, text):
        self.hall = hall
        self.rows = [line.split(" ") for line in text.split("\n")]
        self.place = 0
        self.ground = Floor(hall)

    # The parts of the next row behind those with which it has to begin.
    def parts_behind(self, beginning):
        need(self.place < len(self.rows))
        parts = self.rows[self.place]
        many = len(beginning)
        need(parts[:many] == beginning)
        self.place += 1
        return parts[many:]

    # Rules, hands, takes and gates' numbers are bounded as a change's are: so changes look at them and put them.
    def put_by(self, change):
        try:
            need_change(self.hall, change)
        except BadChange:
            raise BadKept("a number or a rule that no change could bring") from None
        self.ground.change(change)

    def wake_fork(self, name):
        parts = self.parts_behind(["fork", name])
        need(len(parts) == 2)
        self.put_by(("by", name, parts[0]))
        self.ground.set_tally(name, number_of(parts[1]))

    def wake_desk(self, name):
        numbers = numbers_of(self.parts_behind(["desk", name]))
        need(len(numbers) > 2)
        self.put_by(("hands", name, numbers[0]))
        self.ground.set_tally(name, numbers[1])
        self.put_by(("takes", name, numbers[2:]))

    def wake_gate(self, gate):
        numbers = numbers_of(self.parts_behind(["gate", gate[1]]))
        self.put_by((gate[2][0], gate[1]) + numbers)

    def wake_pool(self, name):
        parts = self.parts_behind(["pool", name])
        need(len(parts) == 1)
        self.ground.set_left(name, number_of(parts[0]))

    def wake_stations(self):
        for fork in of_sort(self.hall, "fork"):
            self.wake_fork(fork[1])
        for desk in of_sort(self.hall, "desk"):
            self.wake_desk(desk[1])
        for gate in of_sort(self.hall, "gate"):
            self.wake_gate(gate)
        for pool in of_sort(self.hall, "pool"):
            self.wake_pool(pool[1])

    # Tells the place among those who stand at the station.
    def wake_visitor(self, number, rank):
        parts = self.parts_behind(["v", str(number), str(rank)])
        need(len(parts) > 3)
        told = by_name(self.hall).get(parts[0])
        need(told is not None and told[0] != "pool")
        need(parts[2] == "-" or told[0] == "desk")
        until = None if parts[2] == "-" else number_of(parts[2])
        pools = [pool[1] for pool in of_sort(self.hall, "pool") if pool[1] in parts[4:]]
        need(pools == parts[4:])
        self.ground.seat(rank, (parts[0], number_of(parts[1]), until), pools)
        return number_of(parts[3])

    def wake_visitors(self, ranks):
        lines = {}
        for number, rank in enumerate(ranks):
            place = self.wake_visitor(number, rank)
            line = lines.setdefault(self.ground.where(number)[0], {})
            need(place not in line)
            line[place] = number
        for name, line in lines.items():
            places = sorted(line)
            need(places == list(range(len(places))))
            self.ground.line_up(name, [line[place] for place in places])


# The ranks of those who have come ahead of a turn, by their numbers.
def ranks_ahead(hall, turn):
    named = by_name(hall)
    doors = doors_by_turn(hall)
    ranks = []
    for coming in sorted(doors):
        if coming < turn:
            ranks.extend([named[name][2] for name in doors[coming]])
    return ranks


def woken(hall, text, changes=None):
    run = Run(hall, changes)
    need(isinstance(text, str))
    waker = Waker(hall, text)
    parts = waker.parts_behind(["turn"])
    need(len(parts) == 1 or parts[1:] == ["changed"])
    turn = number_of(parts[0])
    waker.wake_stations()
    waker.wake_visitors(ranks_ahead(hall, turn))
    need(waker.place == len(waker.rows))
    run.resume(turn, len(parts) == 2, waker.ground)
    return run
