"""Stations as things: each can be told as a tuple and shown as its statement."""

from hallclock.words import MARKS


def fixed(value):
    # Lists within become tuples, so that no later change of what was handed in reaches a station.
    if isinstance(value, (list, tuple)):
        return tuple([fixed(part) for part in value])
    return value


def figures(numbers):
    return [str(number) for number in numbers]


def with_commas(rows):
    joined = []
    for row in rows:
        if joined != []:
            joined.append(",")
        joined.extend(row)
    return joined


def spaced(parts):
    text = ""
    for part in parts:
        if text != "" and part not in MARKS:
            text += " "
        text += part
    return text


class Station:
    def __init__(self, name, thens):
        self.label = name
        self.onward = thens

    def told(self):
        raise NotImplementedError("each class of stations tells its own tuple")

    def head(self):
        raise NotImplementedError("each class of stations has its own words ahead of then")

    def shown(self):
        parts = self.head()
        if self.onward != ():
            parts = parts + ["then"] + with_commas([[name] for name in self.onward])
        return spaced(parts + ["."])

    def name(self):
        return self.label

    def thens(self):
        return list(self.onward)

    def takes_time(self):
        return False


class Pool(Station):
    def __init__(self, name, size):
        Station.__init__(self, name, ())
        self.size = size

    def told(self):
        return ("pool", self.label, self.size)

    def head(self):
        return ["pool", self.label, "holds", str(self.size)]


class Door(Station):
    def __init__(self, name, rank, comings, then):
        Station.__init__(self, name, (then,))
        self.rank = rank
        self.comings = comings

    def told(self):
        return ("door", self.label, self.rank, self.comings, self.onward[0])

    def head(self):
        parts = ["door", self.label]
        if self.rank != 0:
            parts = parts + ["rank", str(self.rank)]
        return parts + self.comings_parts()

    def comings_parts(self):
        if self.comings[0] == "at":
            return ["at"] + figures(self.comings[1])
        told = figures(self.comings[1:])
        return ["draws", told[0], "upto", told[1], "gaps", told[2], "to", told[3], "from", told[4]]


class Way(Station):
    def __init__(self, name, takes, then):
        Station.__init__(self, name, (then,))
        self.takes = takes

    def told(self):
        return ("way", self.label, self.takes, self.onward[0])

    def head(self):
        return ["way", self.label, "takes", str(self.takes)]

    def takes_time(self):
        return True


class Desk(Station):
    def __init__(self, name, hands, takes, ranked, rests, then):
        Station.__init__(self, name, (then,))
        self.hands = hands
        self.takes = takes
        self.ranked = ranked
        self.rests = rests

    def told(self):
        return ("desk", self.label, self.hands, self.takes, self.ranked, self.rests, self.onward[0])

    def head(self):
        parts = ["desk", self.label, "hands", str(self.hands), "takes"] + figures(self.takes)
        if self.ranked:
            parts.append("ranked")
        if self.rests != ():
            parts = parts + ["rests"] + with_commas([[str(low), "to", str(high)] for low, high in self.rests])
        return parts

    def takes_time(self):
        return True


class Gate(Station):
    def __init__(self, name, rule, then):
        Station.__init__(self, name, (then,))
        self.rule = rule

    def told(self):
        return ("gate", self.label, self.rule, self.onward[0])

    def head(self):
        between = "for" if self.rule[0] == "opens" else "at"
        return ["gate", self.label, self.rule[0], str(self.rule[1]), between, str(self.rule[2])]


class Fork(Station):
    def __init__(self, name, rule, thens):
        Station.__init__(self, name, thens)
        self.rule = rule

    def told(self):
        return ("fork", self.label, self.rule, self.onward)

    def head(self):
        return ["fork", self.label, "by", self.rule]


class Lend(Station):
    def __init__(self, name, pool, then):
        Station.__init__(self, name, (then,))
        self.pool = pool

    def told(self):
        return ("lend", self.label, self.pool, self.onward[0])

    def head(self):
        return ["lend", self.label, "of", self.pool]


class Give(Station):
    def __init__(self, name, pool, then):
        Station.__init__(self, name, (then,))
        self.pool = pool

    def told(self):
        return ("give", self.label, self.pool, self.onward[0])

    def head(self):
        return ["give", self.label, "of", self.pool]


class Exit(Station):
    def __init__(self, name):
        Station.__init__(self, name, ())

    def told(self):
        return ("exit", self.label)

    def head(self):
        return ["exit", self.label]


def station_of(told):
    facts = fixed(told)
    kind = facts[0]
    name = facts[1]
    if kind == "pool":
        return Pool(name, facts[2])
    if kind == "door":
        return Door(name, facts[2], facts[3], facts[4])
    if kind == "way":
        return Way(name, facts[2], facts[3])
    if kind == "desk":
        return Desk(name, facts[2], facts[3], facts[4], facts[5], facts[6])
    if kind == "gate":
        return Gate(name, facts[2], facts[3])
    if kind == "fork":
        return Fork(name, facts[2], facts[3])
    if kind == "lend":
        return Lend(name, facts[2], facts[3])
    if kind == "give":
        return Give(name, facts[2], facts[3])
    if kind == "exit":
        return Exit(name)
    raise KeyError(kind)
