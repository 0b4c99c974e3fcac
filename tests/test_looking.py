import random
import unittest

from hallclock.errors import BadLoan, BadName, BadNumber, BadRing, HallError, NoDoor, TooMany
from hallclock.looking import comings, need_hall
from hallclock.reading import hall_of

GOOD = """
pool cart holds 5. pool key holds 1.
door a at 0 3 3 then l. door b rank 9 draws 7 upto 20 gaps 1 to 50 from 900 then f.
lend l of cart then walk. way walk takes 99 then till.
fork f by least then g, h, out.
desk till hands 2 takes 1 2 3 ranked rests 0 to 5, 7 to 999 then back.
gate g opens 10 for 3 then out. gate h below 2 at h then out.
give back of cart then out.
exit out.
"""


def door(comings, name="a", rank=0, then="out"):
    return ("door", name, rank, comings, then)


def verdict(hall):
    """The name of the refusal and its word, None where the hall is let by."""
    try:
        answer = need_hall(hall)
    except HallError as refusal:
        return (type(refusal).__name__, getattr(refusal, "word", None))
    assert answer is None
    return None


class LookingCase(unittest.TestCase):
    def told(self, text, wanted):
        with self.subTest(text=text):
            self.assertEqual(verdict(hall_of(text)), wanted)

    def good(self, text):
        self.told(text, None)

    def bad_number(self, stations, name):
        hall = [("door", "start", 0, ("at", (0,)), "out"), ("exit", "out")] + stations
        with self.subTest(stations=stations):
            self.assertEqual(verdict(hall), ("BadNumber", name))

    def good_number(self, stations):
        hall = [("door", "start", 0, ("at", (0,)), "out"), ("exit", "out")] + stations
        with self.subTest(stations=stations):
            self.assertIsNone(verdict(hall))


class GoodHallsTest(LookingCase):
    def test_a_good_hall(self):
        self.good(GOOD)

    def test_the_hall_stays_as_it_was(self):
        hall = hall_of(GOOD)
        need_hall(hall)
        self.assertEqual(hall, hall_of(GOOD))

    def test_refused_halls_stay_as_they_were(self):
        for text in ("", "exit a. exit a.", "gate g opens 1 for 1 then g. door a at 0 then g."):
            hall = hall_of(text)
            self.assertIsNotNone(verdict(hall))
            self.assertEqual(hall, hall_of(text))

    def test_fields(self):
        for text, kind in (
            ("exit a. exit a.", BadName), ("pool a holds 0.", BadNumber),
            ("door b at 0 then a. gate a opens 1 for 1 then a.", BadRing),
            ("pool p holds 1. door d at 0 then a. give a of p then x. exit x.", BadLoan),
        ):
            with self.assertRaises(kind) as caught:
                need_hall(hall_of(text))
            self.assertEqual(caught.exception.word, "a")
        for text, kind in (("exit a.", NoDoor), ("".join(f"pool p{'abcde'[k]} holds 1." for k in range(5)), TooMany)):
            with self.assertRaises(kind):
                need_hall(hall_of(text))


class NumbersTest(LookingCase):
    def bounds(self, make, low, high):
        """make(n) is a station, named s, with the number n in it."""
        for number in (low, high):
            self.good_number([make(number)])
        for number in (low - 1, high + 1, -10 ** 30, 10 ** 30):
            self.bad_number([make(number)], "s")

    def test_pool(self):
        self.bounds(lambda n: ("pool", "s", n), 1, 20)

    def test_rank(self):
        self.bounds(lambda n: door(("at", (1,)), "s", n), 0, 9)

    def test_turns(self):
        self.bounds(lambda n: door(("at", (n,)), "s"), 0, 900)
        self.bounds(lambda n: door(("at", (0,) * 11 + (n,)), "s"), 0, 900)
        self.bounds(lambda n: door(("at", (n,) + (900,) * 11), "s"), 0, 900)

    def test_turns_that_fall(self):
        self.good_number([door(("at", (0, 0, 5, 5, 900)), "s")])
        self.bad_number([door(("at", (1, 0)), "s")], "s")
        self.bad_number([door(("at", (3, 5, 4)), "s")], "s")
        self.bad_number([door(("at", (3, 900, 3, 900)), "s")], "s")

    def test_draws(self):
        self.bounds(lambda n: door(("draws", n, 1, 0, 0, 0), "s"), 0, 100)
        self.bounds(lambda n: door(("draws", 0, n, 0, 0, 0), "s"), 1, 20)
        self.bounds(lambda n: door(("draws", 0, 1, n, 50, 0), "s"), 0, 50)
        self.bounds(lambda n: door(("draws", 0, 1, 0, n, 0), "s"), 0, 50)
        self.bounds(lambda n: door(("draws", 0, 1, 0, 0, n), "s"), 0, 900)

    def test_gaps_that_fall(self):
        self.good_number([door(("draws", 0, 1, 7, 7, 0), "s")])
        self.bad_number([door(("draws", 0, 1, 7, 6, 0), "s")], "s")
        self.bad_number([door(("draws", 0, 1, 50, 0, 0), "s")], "s")

    def test_takes(self):
        self.bounds(lambda n: ("way", "s", n, "out"), 1, 99)
        self.bounds(lambda n: ("desk", "s", 1, (n,), False, (), "out"), 1, 99)
        self.bounds(lambda n: ("desk", "s", 1, (5, 5, 5, n), True, (), "out"), 1, 99)

    def test_hands(self):
        self.bounds(lambda n: ("desk", "s", n, (1,), False, (), "out"), 1, 9)

    def test_rests(self):
        self.bounds(lambda n: ("desk", "s", 1, (1,), False, ((n, 999),), "out"), 0, 998)
        self.bounds(lambda n: ("desk", "s", 1, (1,), False, ((0, n),), "out"), 1, 999)
        self.bounds(lambda n: ("desk", "s", 1, (1,), False, ((5, 6), (0, 1), (5, n)), "out"), 6, 999)
        # Rests may lie over one another and in any order.
        self.good_number([("desk", "s", 1, (1,), False, ((5, 9), (0, 7), (5, 9)), "out")])

    def test_opens(self):
        self.bounds(lambda n: ("gate", "s", ("opens", n, 1), "out"), 1, 99)
        self.bounds(lambda n: ("gate", "s", ("opens", 7, n), "out"), 1, 7)
        self.bounds(lambda n: ("gate", "s", ("opens", 1, n), "out"), 1, 1)
        self.bounds(lambda n: ("gate", "s", ("opens", 99, n), "out"), 1, 99)

    def test_below(self):
        self.bounds(lambda n: ("gate", "s", ("below", n, "out"), "out"), 1, 60)


class NamesTest(LookingCase):
    def test_a_name_twice(self):
        self.told("door a at 0 then x. exit x. exit a.", ("BadName", "a"))
        self.told("pool x holds 1. door a at 0 then x. exit x.", ("BadName", "x"))
        self.told("exit x. exit y. exit y. exit x.", ("BadName", "y"))

    def test_thens(self):
        head = "pool p holds 1. door d at 0 then x. exit x. "
        for statement in (
            "way s takes 1 then {}.", "desk s hands 1 takes 1 then {}.", "gate s opens 1 for 1 then {}.",
            "gate s below 1 at x then {}.", "fork s by turns then {}, x.", "fork s by turns then x, {}.",
            "fork s by turns then x, x, {}.", "fork s by turns then x, x, x, {}.", "lend s of p then {}.",
            "give s of p then {}.", "door s at 0 then {}.", "gate s below 1 at {} then x.",
        ):
            self.good(head + statement.format("x"))
            for name in ("nowhere", "p", "d"):
                self.told(head + statement.format(name), ("BadName", name))

    def test_the_stations_own_name(self):
        head = "pool p holds 1. door d at 0 then x. exit x. "
        self.good(head + "way s takes 1 then s.")
        self.good(head + "desk s hands 1 takes 1 then s.")
        self.good(head + "gate s below 1 at s then x.")
        self.told("pool p holds 1. exit x. door d at 0 then d.", ("BadName", "d"))
        self.told(head + "lend s of s then x.", ("BadName", "s"))
        self.told(head + "gate s opens 1 for 1 then s.", ("BadRing", "s"))

    def test_names_behind_of(self):
        head = "pool p holds 1. door d at 0 then x. exit x. "
        for word in ("lend", "give"):
            for name in ("nowhere", "x", "d", "s"):
                self.told(head + f"{word} s of {name} then x.", ("BadName", name))
            self.good(head + f"{word} s of p then x.")

    def test_names_may_stand_ahead_of_their_stations(self):
        self.good("door d at 0 then l. lend l of p then g. give g of p then x. exit x. pool p holds 1.")

    def test_name_by_name_as_they_stand(self):
        head = "pool p holds 1. door d at 0 then x. exit x. "
        self.told(head + "lend s of y then z.", ("BadName", "y"))
        self.told(head + "give s of p then z.", ("BadName", "z"))
        self.told(head + "gate s below 1 at y then z.", ("BadName", "y"))
        self.told(head + "fork s by least then x, z, y.", ("BadName", "z"))
        self.told(head + "way s takes 1 then z. way t takes 1 then y.", ("BadName", "z"))
        self.told("door d at 0 then z. pool p holds 1. lend s of y then x. exit x.", ("BadName", "z"))


class OrderTest(LookingCase):
    def test_station_by_station(self):
        self.told("exit a. pool b holds 0. exit a.", ("BadNumber", "b"))
        self.told("exit a. exit a. pool b holds 0.", ("BadName", "a"))
        # Of one station the name goes ahead of its numbers.
        self.told("exit a. pool a holds 0.", ("BadName", "a"))
        self.told("pool a holds 0. pool b holds 0.", ("BadNumber", "a"))

    def test_names_and_numbers_ahead_of_names_that_are_meant(self):
        self.told("way w takes 1 then nowhere. pool b holds 0.", ("BadNumber", "b"))
        self.told("way w takes 1 then nowhere. way w takes 1 then w.", ("BadName", "w"))

    def test_names_that_are_meant_ahead_of_too_many(self):
        many = "".join(f"exit x{'abcdefghijklmnopqrstuvwxy'[k]}." for k in range(25))
        self.told(many + "way w takes 1 then nowhere.", ("BadName", "nowhere"))
        self.told(many, ("TooMany", None))

    def test_too_many_ahead_of_no_door(self):
        self.told("".join(f"pool p{'abcde'[k]} holds 1." for k in range(5)), ("TooMany", None))
        self.told("".join(f"pool p{'abcd'[k]} holds 1." for k in range(4)), ("NoDoor", None))
        self.told("", ("NoDoor", None))

    def test_no_door_ahead_of_rings(self):
        self.told("gate g opens 1 for 1 then g.", ("NoDoor", None))
        self.told("gate g opens 1 for 1 then g. door d at 0 then g.", ("BadRing", "g"))

    def test_rings_ahead_of_loans(self):
        text = "pool p holds 1. door d at 0 then s. give s of p then x. exit x. "
        self.told(text, ("BadLoan", "s"))
        self.told(text + "gate g opens 1 for 1 then g.", ("BadRing", "g"))


class ManyTest(LookingCase):
    def test_stations(self):
        letters = "abcdefghijklmnopqrstuvwxyz"
        head = "door d at 0 then xa. pool p holds 1. "
        self.good(head + "".join(f"exit x{letters[k]}." for k in range(22)))
        self.told(head + "".join(f"exit x{letters[k]}." for k in range(23)), ("TooMany", None))

    def test_pools(self):
        head = "door d at 0 then x. exit x."
        self.good(head + "".join(f"pool p{'abcd'[k]} holds 20." for k in range(4)))
        self.told(head + "".join(f"pool p{'abcde'[k]} holds 1." for k in range(5)), ("TooMany", None))

    def test_visitors(self):
        twenty = "".join(f"door d{'abc'[k]} draws 3 upto 20 gaps 0 to 1 from 0 then x." for k in range(3))
        self.good(twenty + "exit x.")
        self.told(twenty + "door e at 900 then x. exit x.", ("TooMany", None))
        twelve = "".join(f"door d{'abcde'[k]} at 1 1 1 1 1 1 1 1 1 1 1 1 then x." for k in range(5))
        self.good(twelve + "exit x.")
        self.told(twelve + "door e draws 0 upto 1 gaps 0 to 0 from 0 then x. exit x.", ("TooMany", None))


class RingsTest(LookingCase):
    HEAD = "pool p holds 3. door d at 0 then x. exit x. "

    def ring(self, text, name):
        self.told(self.HEAD + text, ("BadRing", name))

    def no_ring(self, text):
        self.good(self.HEAD + text)

    def test_one_station(self):
        self.ring("gate a opens 1 for 1 then a.", "a")
        self.ring("gate a below 1 at x then a.", "a")
        self.ring("fork a by turns then x, a.", "a")
        self.ring("fork a by turns then x, x, x, a.", "a")
        self.ring("lend a of p then a.", "a")
        self.ring("give a of p then a.", "a")

    def test_several(self):
        self.ring("gate a opens 1 for 1 then b. gate b opens 1 for 1 then a.", "a")
        self.ring("gate b opens 1 for 1 then a. gate a opens 1 for 1 then b.", "b")
        self.ring("lend a of p then b. give b of p then c. fork c by least then x, a.", "a")
        self.ring("gate a opens 1 for 1 then b. fork b by turns then x, c. give c of p then e."
                  "lend e of p then a.", "a")

    def test_with_a_way_or_a_desk_among_them(self):
        self.no_ring("gate a opens 1 for 1 then b. way b takes 1 then a.")
        self.no_ring("lend a of p then b. desk b hands 1 takes 1 then c. fork c by least then x, a.")
        self.no_ring("way a takes 1 then a. desk b hands 1 takes 1 then b.")
        self.no_ring("way a takes 1 then b. way b takes 1 then a.")

    def test_a_ring_beside_one_that_takes_time(self):
        self.ring("fork a by turns then b, w. way w takes 1 then a. gate b opens 1 for 1 then a.", "a")
        self.ring("way w takes 1 then a. gate b opens 1 for 1 then a. fork a by turns then b, w.", "b")

    def test_who_only_leads_to_a_ring_is_not_on_it(self):
        self.ring("gate a opens 1 for 1 then b. gate b opens 1 for 1 then c. gate c opens 1 for 1 then b.", "b")
        self.ring("gate a opens 1 for 1 then b. fork b by turns then b, x.", "b")
        # Nor is who is only come to from one.
        self.ring("gate z opens 1 for 1 then x. fork b by turns then z, c. gate c opens 1 for 1 then b.", "b")

    def test_the_name_behind_at_is_no_then(self):
        self.no_ring("gate a below 1 at b then x. gate b below 1 at a then x. gate c below 1 at c then x.")

    def test_of_two_rings_the_first_station_in_order(self):
        self.ring("gate a opens 1 for 1 then c. fork b by turns then b, x. gate c opens 1 for 1 then a.", "a")
        self.ring("fork b by turns then b, x. gate a opens 1 for 1 then c. gate c opens 1 for 1 then a.", "b")

    def test_a_ring_nobody_comes_to(self):
        self.ring("gate a opens 1 for 1 then b. gate b opens 1 for 1 then a.", "a")


class LoansTest(LookingCase):
    POOLS = "pool p holds 1. pool q holds 1. "

    def loan(self, text, name):
        self.told(self.POOLS + text, ("BadLoan", name))

    def no_loan(self, text):
        self.good(self.POOLS + text)

    def test_lent_and_given_back(self):
        self.no_loan("door d at 0 then a. lend a of p then b. give b of p then x. exit x.")

    def test_lend_with_a_thing_of_its_pool(self):
        self.loan("door d at 0 then a. lend a of p then b. lend b of p then c. give c of p then x. exit x.", "b")

    def test_give_without_one(self):
        self.loan("door d at 0 then c. give c of p then x. exit x.", "c")
        self.loan("door d at 0 then a. lend a of q then c. give c of p then e. give e of q then x. exit x.", "c")
        self.loan("door d at 0 then a. lend a of p then b. give b of p then c. give c of p then x. exit x.", "c")

    def test_exit_with_one(self):
        self.loan("door d at 0 then a. lend a of p then x. exit x.", "x")
        self.loan("door d at 0 then a. lend a of p then b. lend b of q then c. give c of p then x. exit x.", "x")

    def test_two_pools(self):
        self.no_loan("door d at 0 then a. lend a of p then b. lend b of q then c. give c of q then e."
                     "give e of p then x. exit x.")
        self.no_loan("door d at 0 then a. lend a of p then b. lend b of q then c. give c of p then e."
                     "give e of q then x. exit x.")

    def test_ways_that_part(self):
        self.no_loan("door d at 0 then f. fork f by turns then a, x. lend a of p then b. give b of p then x. exit x.")
        self.loan("door d at 0 then f. fork f by turns then a, b. lend a of p then b. give b of p then x. exit x.", "b")
        self.loan("door d at 0 then a. lend a of p then f. fork f by turns then b, x. give b of p then x. exit x.", "x")
        self.loan("door d at 0 then f. fork f by number then a, c. lend a of p then c. way c takes 1 then x. exit x.",
                  "x")

    def test_each_door(self):
        self.loan("door c at 0 then a. door d at 0 then b. lend a of p then b. give b of p then x. exit x.", "b")
        self.no_loan("door c at 0 then a. door d at 0 then a. lend a of p then b. give b of p then x. exit x.")

    def test_beyond_such_a_station_the_way_is_not_followed(self):
        # Were the way followed beyond b, x would be the first one in order.
        self.loan("exit x. door d at 0 then a. lend a of p then b. lend b of p then x.", "b")
        self.loan("give c of q then x. exit x. door d at 0 then a. give a of p then c.", "a")
        # But it may be come to otherwise too.
        self.loan("give c of q then x. exit x. door d at 0 then f. fork f by least then a, c. give a of p then c.", "c")

    def test_the_first_one_in_order(self):
        self.loan("exit x. door d at 0 then f. fork f by least then a, b. lend a of p then x. give b of p then x.", "x")
        self.loan("give b of p then x. exit x. door d at 0 then f. fork f by least then a, b. lend a of p then x.", "b")

    def test_where_nobody_comes(self):
        self.no_loan("door d at 0 then x. exit x. give a of p then x. lend b of p then w. way w takes 1 then x.")

    def test_a_visitor_who_never_comes_to_an_exit(self):
        self.no_loan("door d at 0 then a. lend a of p then w. way w takes 1 then w.")
        self.no_loan("door d at 0 then w. way w takes 1 then a. lend a of p then b. give b of p then w.")
        self.loan("door d at 0 then w. way w takes 1 then a. lend a of p then w.", "a")


class RandomHallsTest(unittest.TestCase):
    """Rings and loans of many small halls, held against an own telling of points 6 and 7."""

    def hall(self, dice):
        names = list("abcdefg")
        hall = [("pool", "p", 1), ("pool", "q", 1), ("door", "z", 0, ("at", (0,)), dice.choice(names))]
        for name in names:
            sort = dice.choice(("way", "desk", "gate", "fork", "lend", "give", "exit", "lend", "give"))
            then = dice.choice(names)
            if sort == "way":
                hall.append(("way", name, 1, then))
            elif sort == "desk":
                hall.append(("desk", name, 1, (1,), False, (), then))
            elif sort == "gate":
                hall.append(("gate", name, ("below", 1, dice.choice(names)), then))
            elif sort == "fork":
                hall.append(("fork", name, "least", (then, dice.choice(names))))
            elif sort == "exit":
                hall.append(("exit", name))
            else:
                hall.append((sort, name, dice.choice("pq"), then))
        dice.shuffle(hall)
        return hall

    def thens(self, told):
        return list(told[-1]) if told[0] == "fork" else [told[-1]] if told[0] not in ("exit", "pool") else []

    def ring(self, hall):
        timeless = {told[1]: self.thens(told) for told in hall if told[0] not in ("way", "desk")}
        reach = {name: {then for then in timeless[name] if then in timeless} for name in timeless}
        for middle in reach:
            for name in reach:
                if middle in reach[name]:
                    reach[name] |= reach[middle]
        return next((told[1] for told in hall if told[1] in reach.get(told[1], ())), None)

    def loan(self, hall):
        named = {told[1]: told for told in hall}
        came = {name: set() for name in named}
        wrong = set()
        for told in hall:
            if told[0] == "door":
                came[told[1]].add(frozenset())
        for _ in range(200):
            for name, told in named.items():
                for things in list(came[name]):
                    behind = things
                    if told[0] == "lend" and told[2] in things or told[0] == "give" and told[2] not in things or (
                            told[0] == "exit" and things):
                        wrong.add(name)
                        continue
                    if told[0] == "lend":
                        behind = things | {told[2]}
                    if told[0] == "give":
                        behind = things - {told[2]}
                    for then in self.thens(told):
                        came[then].add(behind)
        return next((told[1] for told in hall if told[1] in wrong), None)

    def test_random_halls(self):
        dice = random.Random(4)
        seen = {}
        for _ in range(1500):
            hall = self.hall(dice)
            ring, loan = self.ring(hall), None
            if ring is None:
                loan = self.loan(hall)
            wanted = ("BadRing", ring) if ring else ("BadLoan", loan) if loan else None
            self.assertEqual(verdict(hall), wanted, hall)
            seen[wanted and wanted[0]] = seen.get(wanted and wanted[0], 0) + 1
        self.assertGreater(min(seen.get(kind, 0) for kind in ("BadRing", "BadLoan", None)), 20, seen)


class ComingsTest(unittest.TestCase):
    def drawn(self, seed, many, low, high, first):
        turns, n = [first], seed
        while len(turns) < many:
            n = (37 * n + 11) % 101
            turns.append(turns[-1] + low + n % (high - low + 1))
        return turns

    def test_told_turns(self):
        for turns in ((0,), (900,), (3, 3, 3), (0, 0, 5, 900), tuple(range(12))):
            self.assertEqual(comings(door(("at", turns))), list(turns))

    def test_drawn_turns_by_hand(self):
        # Behind the seed 1 come 48, 70, 76, 96, ..: with gaps of 2 to 6 these are gaps of 5, 2, 3, 3.
        self.assertEqual(comings(door(("draws", 1, 5, 2, 6, 10))), [10, 15, 17, 20, 23])
        # Behind the seed 0 come 11, 14, 24: with gaps of 0 to 9 these are gaps of 1, 4, 4.
        self.assertEqual(comings(door(("draws", 0, 4, 0, 9, 0))), [0, 1, 5, 9])
        self.assertEqual(comings(door(("draws", 100, 1, 50, 50, 900))), [900])
        self.assertEqual(comings(door(("draws", 100, 3, 50, 50, 900))), [900, 950, 1000])
        self.assertEqual(comings(door(("draws", 100, 3, 0, 0, 7))), [7, 7, 7])

    def test_the_bounds(self):
        for seed in (0, 1, 50, 99, 100):
            for many in (1, 2, 20):
                for low, high in ((0, 0), (0, 1), (0, 50), (3, 9), (49, 50), (50, 50)):
                    for first in (0, 1, 900):
                        wanted = self.drawn(seed, many, low, high, first)
                        self.assertEqual(comings(door(("draws", seed, many, low, high, first))), wanted)

    def test_the_last_one(self):
        self.assertEqual(comings(door(("draws", 5, 20, 50, 50, 900)))[-1], 1850)

    def test_the_name_the_rank_and_the_then_mean_nothing(self):
        for name in ("a", "then", "door", "at", "draws"):
            for rank in (0, 9):
                told = ("door", name, rank, ("draws", 1, 2, 2, 6, 10), name)
                self.assertEqual(comings(told), [10, 15])
                self.assertEqual(comings(("door", name, rank, ("at", (4, 7)), name)), [4, 7])

    def test_told_lists_are_the_askers_own(self):
        for told in (door(("at", (1, 2))), door(("draws", 1, 2, 2, 6, 10))):
            asked = comings(told)
            self.assertIs(type(asked), list)
            again = list(asked)
            asked.clear()
            self.assertEqual(comings(told), again)

    def test_numbers_somewhat_beyond_their_bounds(self):
        self.assertEqual(comings(door(("draws", 1, 21, 51, 51, 901)))[-1], 901 + 20 * 51)
        self.assertEqual(comings(door(("draws", 102, 2, 0, 100, 0))), [0, 48])
        self.assertEqual(comings(door(("draws", 1, 1, 5, 4, 9))), [9])
        self.assertEqual(comings(door(("draws", 1, 0, 5, 5, 9))), [])
        self.assertEqual(comings(door(("at", (901, 3)))), [901, 3])


if __name__ == "__main__":
    unittest.main()
