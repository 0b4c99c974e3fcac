"""An own telling of points 8 to 13 and 17, as plain as can be, to hold the program against. Slow, and meant to be."""


class Model:
    def __init__(self, hall, changes=()):
        self.hall = list(hall)
        self.now = {told[1]: told for told in hall}
        self.left = {told[1]: told[2] for told in hall if told[0] == "pool"}
        self.moved = {told[1]: 0 for told in hall}
        self.changes = list(changes)
        self.people = []
        self.entered = 0
        self.turn = 0
        self.book = []
        self.amid = False

    def at(self, name):
        here = [(one["entered"], number) for number, one in enumerate(self.people) if one["name"] == name]
        return [number for _, number in sorted(here)]

    def comings(self, door):
        rule = door[3]
        if rule[0] == "at":
            return list(rule[1])
        _, n, many, low, high, first = rule
        turns = []
        for _ in range(many):
            turns.append(first)
            n = (37 * n + 11) % 101
            first += low + n % (high - low + 1)
        return turns

    def enter(self, number, name):
        self.people[number].update(name=name, since=self.turn, until=None, entered=self.entered)
        self.entered += 1

    def waiting(self, name):
        return [number for number in self.at(name) if self.people[number]["until"] is None]

    def can(self, number):
        one, turn = self.people[number], self.turn
        told = self.now[one["name"]]
        match told[0]:
            case "door" | "fork" | "give":
                return True
            case "way":
                return turn - one["since"] >= told[2]
            case "exit":
                return False
            case "lend":
                return self.left[told[2]] >= 1
            case "gate" if told[2][0] == "opens":
                return turn % told[2][1] in range(told[2][2])
            case "gate":
                return len(self.at(told[2][2])) < told[2][1]
        if one["until"] is not None:
            return turn >= one["until"]
        _, name, hands, _, ranked, rests, _ = told
        waiting = self.waiting(name)
        if len(self.at(name)) - len(waiting) >= hands or any(turn in range(*rest) for rest in rests):
            return False
        if ranked:
            waiting.sort(key=lambda other: (-self.people[other]["rank"], self.people[other]["entered"]))
        return waiting[0] == number

    def move(self, number):
        one = self.people[number]
        told = self.now[one["name"]]
        name = told[1]
        if told[0] == "desk" and one["until"] is None:
            one["until"] = self.turn + told[3][self.moved[name] % len(told[3])]
            self.moved[name] += 1
            return ("begins", name)
        then = told[-1]
        if told[0] == "fork":
            thens = told[3]
            if told[2] == "turns":
                then = thens[self.moved[name] % len(thens)]
            elif told[2] == "number":
                then = thens[number % len(thens)]
            else:
                fewest = min(len(self.at(other)) for other in thens)
                then = [other for other in thens if len(self.at(other)) == fewest][0]
            self.moved[name] += 1
        if told[0] == "lend":
            self.left[told[2]] -= 1
            one["things"].add(told[2])
        if told[0] == "give":
            self.left[told[2]] += 1
            one["things"].remove(told[2])
        self.enter(number, then)
        return ("enters", then)

    def change(self, change):
        word, name, *rest = change
        told = self.now[name]
        match word:
            case "hands":
                self.now[name] = told[:2] + (rest[0],) + told[3:]
            case "takes":
                self.now[name] = told[:3] + (rest[0],) + told[4:]
            case "opens":
                self.now[name] = told[:2] + (("opens", *rest),) + told[3:]
            case "below":
                self.now[name] = told[:2] + (("below", rest[0], told[2][2]),) + told[3:]
            case "by":
                self.now[name] = told[:2] + (rest[0],) + told[3:]
            case "holds":
                self.left[name] += rest[0]

    def change_amid(self, change):
        self.change(change)
        self.amid = True

    def step(self):
        entries = []
        for turn, change in self.changes:
            if turn == self.turn:
                self.change(change)
        for door in self.hall:
            if door[0] == "door":
                for turn in self.comings(door):
                    if turn == self.turn:
                        self.people.append({"rank": door[2], "things": set()})
                        number = len(self.people) - 1
                        self.enter(number, door[1])
                        entries.append((self.turn, number, "comes", door[1]))
        while True:
            able = [number for number in range(len(self.people)) if self.can(number)]
            if not able:
                break
            entries.append((self.turn, able[0]) + self.move(able[0]))
        self.turn += 1
        self.amid = False
        self.book.extend(entries)
        return entries

    def is_due(self, turn):
        """Whether a turn, not done yet, is due as things stand."""
        if self.amid and turn == self.turn or any(told == turn for told, _ in self.changes):
            return True
        if any(turn in self.comings(door) for door in self.hall if door[0] == "door"):
            return True
        for one in self.people:
            told = self.now[one["name"]]
            if told[0] == "way" and one["since"] + told[2] == turn or one["until"] == turn:
                return True
            if one["since"] < turn:
                if told[0] == "gate" and told[2][0] == "opens" and turn % told[2][1] == 0:
                    return True
                if told[0] == "desk" and one["until"] is None and any(rest[1] == turn for rest in told[5]):
                    return True
        return False

    def due(self):
        return next((turn for turn in range(self.turn, 2000) if self.is_due(turn)), None)
