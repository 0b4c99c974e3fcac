"""A counter: a hall and a run of it, asked and told by lines."""

from hallclock.book import line_of
from hallclock.errors import BadChange, BadSign
from hallclock.events import Run
from hallclock.keeping import kept, woken
from hallclock.places import RULES, by_name, has_rule
from hallclock.reading import hall_of
from hallclock.reports import report
from hallclock.words import is_name, is_number, words

# A part in capitals stands for such a word, every other one for itself.
FORMS = (
    ("go", "NUMBER"), ("where", "NUMBER"), ("at", "NAME"), ("left", "NAME"), ("book",), ("report",), ("keep",),
    ("wake",), ("change", "hands", "NAME", "NUMBER"), ("change", "takes", "NAME", "NUMBER"),
    ("change", "takes", "NAME", "NUMBER", "NUMBER"), ("change", "takes", "NAME", "NUMBER", "NUMBER", "NUMBER"),
    ("change", "takes", "NAME", "NUMBER", "NUMBER", "NUMBER", "NUMBER"),
    ("change", "opens", "NAME", "NUMBER", "NUMBER"), ("change", "below", "NAME", "NUMBER"),
    ("change", "by", "NAME", "RULE"), ("change", "holds", "NAME", "NUMBER"),
)
CHANGED_SORTS = {"hands": "desk", "takes": "desk", "by": "fork", "holds": "pool"}
GREATEST_GO = 1000


def stands_for(wanted, word):
    if wanted == "NUMBER":
        return is_number(word)
    if wanted == "NAME":
        return is_name(word)
    if wanted == "RULE":
        return word in RULES
    return word == wanted


def has_form(found, form):
    return len(found) == len(form) and all([stands_for(wanted, word) for wanted, word in zip(form, found)])


def is_line(found):
    return any([has_form(found, form) for form in FORMS])


def can_be_changed(told, word):
    if word in CHANGED_SORTS:
        return told[0] == CHANGED_SORTS[word]
    return has_rule(told, word)


def change_of(found):
    word = found[1]
    name = found[2]
    if word == "by":
        return (word, name, found[3])
    numbers = tuple([int(part) for part in found[3:]])
    return (word, name, numbers) if word == "takes" else (word, name) + numbers


class Counter:
    def __init__(self, text):
        self.hall = hall_of(text)
        self.current = Run(self.hall)
        # A woken run's book begins anew: what was in the book ahead of it is here.
        self.earlier = []
        self.text = None
        self.noted = []

    def say(self, line):
        try:
            found = words(line)
        except BadSign:
            return ["no line"]
        if not is_line(found):
            return ["no line"]
        word = found[0]
        if word == "go":
            return self.told_go(int(found[1]))
        if word == "where":
            return self.told_where(int(found[1]))
        if word == "at":
            return self.told_at(found[1])
        if word == "left":
            return self.told_left(found[1])
        if word == "change":
            return self.told_change(found)
        if word == "keep":
            return self.told_keep()
        if word == "wake":
            return self.told_wake()
        if word == "book":
            return [line_of(entry) for entry in self.whole_book()]
        return report(self.hall, self.whole_book(), self.current.turn())

    def whole_book(self):
        return self.earlier + self.current.book()

    def next_turn(self):
        turn = self.current.turn()
        return [f"turn {turn}"]

    def told_go(self, turns):
        if turns > GREATEST_GO:
            return ["bad number"]
        self.current.go(turns)
        return self.next_turn()

    def told_where(self, number):
        floor = self.current.floor()
        if number >= floor.many():
            return ["nobody such"]
        stand = floor.where(number)
        name = stand[0]
        since = stand[1]
        return [f"{name} {since}"]

    def told_at(self, name):
        told = by_name(self.hall).get(name)
        if told is None or told[0] == "pool":
            return ["no such name"]
        numbers = self.current.floor().at(name)
        return ["nobody"] if numbers == [] else [" ".join([str(number) for number in numbers])]

    def told_left(self, name):
        told = by_name(self.hall).get(name)
        if told is None or told[0] != "pool":
            return ["no such name"]
        return [str(self.current.floor().left(name))]

    def told_change(self, found):
        told = by_name(self.hall).get(found[2])
        if told is None or not can_be_changed(told, found[1]):
            return ["no such name"]
        try:
            self.current.change(change_of(found))
        except BadChange:
            return ["bad number"]
        return ["changed"]

    def told_keep(self):
        self.text = kept(self.current)
        self.noted = self.whole_book()
        return self.text.split("\n")

    def told_wake(self):
        if self.text is None:
            return ["nothing kept"]
        self.current = woken(self.hall, self.text)
        self.earlier = list(self.noted)
        return self.next_turn()
