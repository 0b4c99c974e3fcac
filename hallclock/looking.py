"""Looks at halls and at changes of them: what is wrong is refused, the first wrong thing in the document's order."""

from hallclock.errors import BadChange, BadLoan, BadName, BadNumber, BadRing, NoDoor, TooMany
from hallclock.places import MOST_TAKES, RULES, by_name, has_rule, of_sort
from hallclock.stations import station_of

BOUNDS = {
    "holds": (1, 20), "rank": (0, 9), "turn": (0, 900), "draws": (0, 100), "upto": (1, 20), "gaps": (0, 50),
    "takes": (1, 99), "hands": (1, 9), "rests": (0, 999), "opens": (1, 99), "below": (1, 60), "changes": (0, 999),
}
MOST_STATIONS = 24
MOST_POOLS = 4
MOST_VISITORS = 60


# True is an int to Python, but no number here.
def is_whole(number):
    return isinstance(number, int) and not isinstance(number, bool)


def within(number, word):
    bounds = BOUNDS[word]
    return is_whole(number) and bounds[0] <= number <= bounds[1]


def all_within(numbers, word):
    return all([within(number, word) for number in numbers])


def rising(numbers):
    return all([low <= high for low, high in zip(numbers, numbers[1:])])


def good_comings(told):
    if told[0] == "at":
        return all_within(told[1], "turn") and rising(told[1])
    good = within(told[1], "draws") and within(told[2], "upto") and within(told[5], "turn")
    return good and all_within(told[3:5], "gaps") and told[3] <= told[4]


def good_rest(rest):
    return all_within(rest, "rests") and rest[0] < rest[1]


def good_takes(numbers):
    return 1 <= len(numbers) <= MOST_TAKES and all_within(numbers, "takes")


def good_opening(every, long):
    return within(every, "opens") and is_whole(long) and 1 <= long <= every


def good_rule(rule):
    if rule[0] == "opens":
        return good_opening(rule[1], rule[2])
    return within(rule[1], "below")


def good_numbers(told):
    sort = told[0]
    if sort == "pool":
        return within(told[2], "holds")
    if sort == "door":
        return within(told[2], "rank") and good_comings(told[3])
    if sort == "way":
        return within(told[2], "takes")
    if sort == "desk":
        good = within(told[2], "hands") and all_within(told[3], "takes")
        return good and all([good_rest(rest) for rest in told[5]])
    if sort == "gate":
        return good_rule(told[2])
    return True


def need_each(hall):
    earlier = {}
    for told in hall:
        if told[1] in earlier:
            raise BadName(told[1])
        if not good_numbers(told):
            raise BadNumber(told[1])
        earlier[told[1]] = True


def need_sort(named, name, wants_pool):
    if name not in named:
        raise BadName(name)
    sort = named[name][0]
    if sort == "door" or (sort == "pool") != wants_pool:
        raise BadName(name)


def need_names(hall):
    named = by_name(hall)
    for told in hall:
        if told[0] in ("lend", "give"):
            need_sort(named, told[2], True)
        if has_rule(told, "below"):
            need_sort(named, told[2][2], False)
        for name in station_of(told).thens():
            need_sort(named, name, False)


def need_few(hall):
    doors = of_sort(hall, "door")
    visitors = sum([len(comings(door)) for door in doors])
    if len(hall) > MOST_STATIONS or len(of_sort(hall, "pool")) > MOST_POOLS or visitors > MOST_VISITORS:
        raise TooMany("too many stations, pools or visitors")
    if doors == []:
        raise NoDoor("no door")


def comes_back(stations, name):
    seen = {}
    open_ends = [name]
    while open_ends != []:
        station = stations[open_ends.pop()]
        if station.takes_time():
            continue
        for then in station.thens():
            if then == name:
                return True
            if then not in seen:
                seen[then] = True
                open_ends.append(then)
    return False


def need_no_ring(hall):
    stations = {}
    for told in hall:
        stations[told[1]] = station_of(told)
    for name in stations:
        if comes_back(stations, name):
            raise BadRing(name)


def wrong_loan(told, things):
    if told[0] == "lend":
        return told[2] in things
    if told[0] == "give":
        return told[2] not in things
    return told[0] == "exit" and things != ()


def things_behind(told, things):
    if told[0] == "lend":
        return tuple(sorted(things + (told[2],)))
    if told[0] == "give":
        return tuple([pool for pool in things if pool != told[2]])
    return things


def wrong_loans(hall):
    named = by_name(hall)
    wrong = {}
    open_ends = [(door[1], ()) for door in of_sort(hall, "door")]
    seen = {}
    while open_ends != []:
        state = open_ends.pop()
        if state in seen:
            continue
        seen[state] = True
        told = named[state[0]]
        if wrong_loan(told, state[1]):
            wrong[state[0]] = True
            continue
        things = things_behind(told, state[1])
        open_ends.extend([(then, things) for then in station_of(told).thens()])
    return wrong


def need_loans_back(hall):
    wrong = wrong_loans(hall)
    for told in hall:
        if told[1] in wrong:
            raise BadLoan(told[1])


def need_hall(hall):
    need_each(hall)
    need_names(hall)
    need_few(hall)
    need_no_ring(hall)
    need_loans_back(hall)


def comings(door):
    told = door[3]
    if told[0] == "at":
        return list(told[1])
    number = told[1]
    turn = told[5]
    turns = []
    for place in range(told[2]):
        if place > 0:
            number = (37 * number + 11) % 101
            turn += told[3] + number % (told[4] - told[3] + 1)
        turns.append(turn)
    return turns


def good_part(told, change):
    word = change[0]
    part = change[2]
    if word == "hands":
        return told[0] == "desk" and within(part, "hands")
    if word == "takes":
        return told[0] == "desk" and isinstance(part, tuple) and good_takes(part)
    if word == "below":
        return has_rule(told, "below") and within(part, "below")
    if word == "by":
        return told[0] == "fork" and isinstance(part, str) and part in RULES
    return word == "holds" and told[0] == "pool" and within(part, "holds")


def is_change(hall, change):
    if not isinstance(change, tuple) or len(change) not in (3, 4):
        return False
    # Texts are asked for first: of anything else not even == or a dict's index is sure.
    if not isinstance(change[0], str) or not isinstance(change[1], str):
        return False
    named = by_name(hall)
    if change[1] not in named:
        return False
    told = named[change[1]]
    if len(change) == 4:
        return change[0] == "opens" and has_rule(told, "opens") and good_opening(change[2], change[3])
    return good_part(told, change)


def need_change(hall, change):
    if not is_change(hall, change):
        raise BadChange("no change of this hall")


def need_changes(hall, changes):
    if not isinstance(changes, list):
        raise BadChange("no list of changes")
    earliest = 0
    for pair in changes:
        if not isinstance(pair, tuple) or len(pair) != 2:
            raise BadChange("no pair of a turn and a change")
        if not within(pair[0], "changes") or pair[0] < earliest:
            raise BadChange("no turn that may stand there")
        need_change(hall, pair[1])
        earliest = pair[0]
