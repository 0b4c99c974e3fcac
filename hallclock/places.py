"""What reading and looking share: how much a statement lets, and what lies where in a station's tuple."""

MOST_TURNS = 12
MOST_TAKES = 4
MOST_RESTS = 3
FEWEST_THENS = 2
MOST_THENS = 4
RULES = ("turns", "number", "least")


def of_sort(hall, sort):
    return [told for told in hall if told[0] == sort]


def by_name(hall):
    found = {}
    for told in hall:
        found.setdefault(told[1], told)
    return found


def has_rule(told, word):
    return told[0] == "gate" and told[2][0] == word
