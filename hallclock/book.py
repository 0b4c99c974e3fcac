"""The book: its lines, and what can be told of it: stays, services, and how many stand where."""

from hallclock.places import of_sort


def line_of(entry):
    turn = str(entry[0]).zfill(4)
    number = str(entry[1]).zfill(2)
    word = entry[2]
    name = entry[3]
    return f"{turn} v{number} {word} {name}"


# Of each entry the turn at which its visitor enters the next station, or the number of turns.
def ends(book, turns):
    entered = {}
    found = []
    for entry in reversed(book):
        found.append(entered.get(entry[1], turns))
        if entry[2] != "begins":
            entered[entry[1]] = entry[0]
    return list(reversed(found))


def spans(names, beginnings, book, turns):
    found = {}
    for name in names:
        found[name] = []
    for entry, end in zip(book, ends(book, turns)):
        if entry[2] in beginnings:
            found[entry[3]].append((entry[1], entry[0], end))
    return found


def stays(hall, book, turns):
    names = [told[1] for told in hall if told[0] != "pool"]
    return spans(names, ("comes", "enters"), book, turns)


def services(hall, book, turns):
    names = [desk[1] for desk in of_sort(hall, "desk")]
    return spans(names, ("begins",), book, turns)


def count_each_turn(spent, turns):
    numbers = [0] * turns
    for stay in spent:
        for turn in range(stay[1], stay[2]):
            numbers[turn] += 1
    return numbers


def counts(hall, book, turns):
    found = {}
    for name, spent in stays(hall, book, turns).items():
        found[name] = count_each_turn(spent, turns)
    return found
