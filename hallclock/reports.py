"""Fractions, and the report of a book."""

from hallclock.book import counts, services, stays


def common_part(one, other):
    while other != 0:
        rest = one % other
        one = other
        other = rest
    return one


def fraction(top, bottom):
    part = common_part(abs(top), abs(bottom))
    if bottom < 0:
        part = -part
    return (top // part, bottom // part)


def mean(numbers):
    return fraction(sum(numbers), len(numbers))


def shown_fraction(one):
    top = str(one[0])
    bottom = str(one[1])
    return top if one[1] == 1 else f"{top}/{bottom}"


def shown_mean(numbers):
    return "-" if numbers == [] else shown_fraction(mean(numbers))


def lengths(spans):
    return [span[2] - span[1] for span in spans]


# By desk, of each service that was begun there, how long its visitor had waited.
def waitings(book):
    entered = {}
    found = {}
    for entry in book:
        if entry[2] == "begins":
            found.setdefault(entry[3], []).append(entry[0] - entered[entry[1]])
        else:
            entered[entry[1]] = entry[0]
    return found


def idle_share(hands, served, turns):
    if turns == 0:
        return "-"
    whole = hands * turns
    return shown_fraction(fraction(whole - sum(served), whole))


def report(hall, book, turns):
    stays_of = stays(hall, book, turns)
    services_of = services(hall, book, turns)
    counts_of = counts(hall, book, turns)
    waitings_of = waitings(book)
    lines = []
    for told in hall:
        name = told[1]
        if told[0] == "pool":
            continue
        spent = lengths(stays_of[name])
        parts = [name.ljust(8), str(len(spent)).rjust(3), shown_mean(spent), str(max(counts_of[name], default=0))]
        if told[0] == "desk":
            parts.append(shown_mean(waitings_of.get(name, [])))
            parts.append(idle_share(told[2], lengths(services_of[name]), turns))
        lines.append(" ".join(parts))
    return lines
