"""Halls and changes of them, drawn by dice: good ones, with every sort of station."""
from hallclock.errors import HallError
from hallclock.looking import need_hall

RULES = ("turns", "number", "least")


class Maker:
    def __init__(self, dice):
        self.dice = dice
        self.stations = []
        self.names = [a + b for a in "bcdfgh" for b in "aeiou"]
        dice.shuffle(self.names)
        self.pools = []

    def name(self):
        return self.names.pop()

    def add(self, told):
        self.stations.append(told)
        return told[1]

    def desk(self, then):
        dice = self.dice
        takes = tuple(dice.randint(1, dice.choice((2, 6, 20))) for _ in range(dice.randint(1, 4)))
        rests = []
        for _ in range(dice.choice((0, 0, 1, 2, 3))):
            first = dice.randint(0, 80)
            rests.append((first, first + dice.randint(1, 40)))
        hands = dice.choice((1, 1, 1, 2, 3, 9))
        return self.add(("desk", self.name(), hands, takes, dice.random() < 0.5, tuple(rests), then))

    def gate(self, then):
        dice = self.dice
        if dice.random() < 0.5:
            every = dice.choice((1, 2, 5, 9, 30))
            return self.add(("gate", self.name(), ("opens", every, dice.randint(1, every)), then))
        return self.add(("gate", self.name(), ("below", dice.choice((1, 2, 3, 8)), None), then))

    def fork(self, then, held):
        many = self.dice.randint(2, 4)
        thens = [then if self.dice.random() < 0.4 else self.block(then, held) for _ in range(many)]
        return self.add(("fork", self.name(), self.dice.choice(RULES), tuple(thens)))

    def loan(self, then, held):
        free = [pool for pool in self.pools if pool not in held]
        if not free:
            return self.add(("way", self.name(), 1, then))
        pool = self.dice.choice(free)
        back = self.add(("give", self.name(), pool, then))
        inner = self.chain(back, held + [pool], self.dice.randint(1, 2))
        return self.add(("lend", self.name(), pool, inner))

    def block(self, then, held):
        sort = self.dice.choice(("way", "desk", "desk", "gate", "gate", "fork", "loan", "loan"))
        if sort == "way":
            return self.add(("way", self.name(), self.dice.choice((1, 2, 3, 7, 25)), then))
        if sort == "desk":
            return self.desk(then)
        if sort == "gate":
            return self.gate(then)
        return self.fork(then, held) if sort == "fork" else self.loan(then, held)

    def chain(self, then, held, many):
        for _ in range(many):
            then = self.block(then, held)
        return then

    def door(self, then):
        dice = self.dice
        if dice.random() < 0.5:
            turns = tuple(sorted(dice.choice((0, 3, 3, dice.randint(0, 60))) for _ in range(dice.randint(1, 8))))
            comings = ("at", turns)
        else:
            low = dice.randint(0, 4)
            comings = ("draws", dice.randint(0, 100), dice.randint(1, 15), low, low + dice.randint(0, 9),
                       dice.randint(0, 30))
        return self.add(("door", self.name(), dice.choice((0, 0, 1, 5, 9)), comings, then))

    def hall(self):
        dice = self.dice
        for _ in range(dice.randint(0, 3)):
            self.pools.append(self.add(("pool", self.name(), dice.choice((1, 1, 2, 5)))))
        end = self.add(("exit", self.name()))
        if dice.random() < 0.5:
            around = self.name()
            fork = self.add(("fork", self.name(), dice.choice(RULES), (end, around)))
            first = self.chain(fork, [], dice.randint(1, 3))
            self.add(("way", around, dice.choice((1, 4, 11)), first))
        else:
            first = self.chain(end, [], dice.randint(1, 5))
        for _ in range(dice.randint(1, 3)):
            self.door(first if dice.random() < 0.7 else dice.choice((end, first)))
        meant = [told[1] for told in self.stations if told[0] not in ("pool", "door")]
        hall = [self.with_name(told, meant) for told in self.stations]
        dice.shuffle(hall)
        return hall

    def with_name(self, told, meant):
        if told[0] == "gate" and told[2][0] == "below":
            return told[:2] + (("below", told[2][1], self.dice.choice(meant)),) + told[3:]
        return told


def some_hall(dice):
    while True:
        try:
            hall = Maker(dice).hall()
            need_hall(hall)
        except (HallError, IndexError):
            continue
        return hall


def some_change(dice, hall):
    while True:
        told = dice.choice(hall)
        name = told[1]
        if told[0] == "desk":
            if dice.random() < 0.5:
                return ("hands", name, dice.choice((1, 1, 2, 4)))
            return ("takes", name, tuple(dice.randint(1, 12) for _ in range(dice.randint(1, 4))))
        if told[0] == "gate" and told[2][0] == "opens":
            every = dice.randint(1, 20)
            return ("opens", name, every, dice.randint(1, every))
        if told[0] == "gate":
            return ("below", name, dice.randint(1, 5))
        if told[0] == "fork":
            return ("by", name, dice.choice(RULES))
        if told[0] == "pool":
            return ("holds", name, dice.randint(1, 3))
        if not any(other[0] in ("desk", "gate", "fork", "pool") for other in hall):
            return None


def some_changes(dice, hall, upto=150):
    turns = sorted(dice.randint(0, upto) for _ in range(dice.choice((0, 1, 4, 12))))
    found = [(turn, some_change(dice, hall)) for turn in turns]
    return [pair for pair in found if pair[1] is not None]
