"""Reads a hall's text: statement by statement, each word in its place."""

from hallclock.errors import BadText
from hallclock.places import FEWEST_THENS, MOST_RESTS, MOST_TAKES, MOST_THENS, MOST_TURNS, RULES
from hallclock.stations import station_of
from hallclock.words import is_name, is_number, words


class Reader:
    def __init__(self, found):
        self.found = found
        self.spot = 0

    def ended(self):
        return self.spot == len(self.found)

    # Behind the end stands the empty text, which is no word: so what ends too soon is refused like a wrong word.
    def ahead(self):
        return "" if self.ended() else self.found[self.spot]

    def one_of(self, allowed):
        word = self.ahead()
        if word not in allowed:
            raise BadText(self.spot)
        self.spot += 1
        return word

    def skips(self, word):
        if self.ahead() != word:
            return False
        self.spot += 1
        return True

    def a_name(self):
        word = self.ahead()
        if not is_name(word):
            raise BadText(self.spot)
        self.spot += 1
        return word

    def a_number(self):
        word = self.ahead()
        if not is_number(word):
            raise BadText(self.spot)
        self.spot += 1
        return int(word)

    def number_behind(self, word):
        self.one_of((word,))
        return self.a_number()

    def name_behind(self, word):
        self.one_of((word,))
        return self.a_name()

    def numbers(self, most):
        told = [self.a_number()]
        while len(told) < most and is_number(self.ahead()):
            told.append(self.a_number())
        return tuple(told)


def pool_told(reader):
    name = reader.a_name()
    return ("pool", name, reader.number_behind("holds"))


def comings_told(reader):
    if reader.one_of(("at", "draws")) == "at":
        return ("at", reader.numbers(MOST_TURNS))
    told = ["draws", reader.a_number()]
    for word in ("upto", "gaps", "to", "from"):
        told.append(reader.number_behind(word))
    return tuple(told)


def door_told(reader):
    name = reader.a_name()
    rank = reader.a_number() if reader.skips("rank") else 0
    coming = comings_told(reader)
    return ("door", name, rank, coming, reader.name_behind("then"))


def way_told(reader):
    name = reader.a_name()
    takes = reader.number_behind("takes")
    return ("way", name, takes, reader.name_behind("then"))


def rest_told(reader):
    first = reader.a_number()
    return (first, reader.number_behind("to"))


def rests_told(reader):
    if not reader.skips("rests"):
        return ()
    told = [rest_told(reader)]
    while len(told) < MOST_RESTS and reader.skips(","):
        told.append(rest_told(reader))
    return tuple(told)


def desk_told(reader):
    name = reader.a_name()
    hands = reader.number_behind("hands")
    reader.one_of(("takes",))
    takes = reader.numbers(MOST_TAKES)
    ranked = reader.skips("ranked")
    rests = rests_told(reader)
    return ("desk", name, hands, takes, ranked, rests, reader.name_behind("then"))


def gate_told(reader):
    name = reader.a_name()
    word = reader.one_of(("opens", "below"))
    number = reader.a_number()
    if word == "opens":
        rule = (word, number, reader.number_behind("for"))
    else:
        rule = (word, number, reader.name_behind("at"))
    return ("gate", name, rule, reader.name_behind("then"))


def fork_told(reader):
    name = reader.a_name()
    reader.one_of(("by",))
    rule = reader.one_of(RULES)
    thens = [reader.name_behind("then")]
    while len(thens) < FEWEST_THENS or (len(thens) < MOST_THENS and reader.ahead() == ","):
        thens.append(reader.name_behind(","))
    return ("fork", name, rule, tuple(thens))


def loan_told(reader, word):
    name = reader.a_name()
    pool = reader.name_behind("of")
    return (word, name, pool, reader.name_behind("then"))


def statement_told(reader):
    word = reader.one_of(("pool", "door", "way", "desk", "gate", "fork", "lend", "give", "exit"))
    if word == "pool":
        return pool_told(reader)
    if word == "door":
        return door_told(reader)
    if word == "way":
        return way_told(reader)
    if word == "desk":
        return desk_told(reader)
    if word == "gate":
        return gate_told(reader)
    if word == "fork":
        return fork_told(reader)
    if word == "exit":
        return ("exit", reader.a_name())
    return loan_told(reader, word)


def read(text):
    reader = Reader(words(text))
    stations = []
    while not reader.ended():
        told = statement_told(reader)
        reader.one_of((".",))
        stations.append(station_of(told))
    return stations


def hall_of(text):
    return [station.told() for station in read(text)]
