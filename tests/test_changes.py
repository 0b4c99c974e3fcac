import unittest

from hallclock.errors import BadChange
from hallclock.looking import need_change, need_changes
from hallclock.reading import hall_of

TEXT = """
pool cart holds 5.
door a at 0 then till.
desk till hands 2 takes 1 2 then walk.
way walk takes 3 then l.
lend l of cart then o.
gate o opens 5 for 2 then b.
gate b below 3 at till then f.
fork f by turns then back, back.
give back of cart then out.
exit out.
"""
NAMES = ("cart", "a", "till", "walk", "l", "o", "b", "f", "back", "out")

GOOD = (
    ("hands", "till", 1), ("hands", "till", 9), ("takes", "till", (1,)), ("takes", "till", (99, 1, 99, 1)),
    ("takes", "till", (5, 6)), ("takes", "till", (5, 6, 7)), ("opens", "o", 1, 1), ("opens", "o", 99, 99),
    ("opens", "o", 99, 1), ("opens", "o", 7, 7), ("below", "b", 1), ("below", "b", 60), ("by", "f", "turns"),
    ("by", "f", "number"), ("by", "f", "least"), ("holds", "cart", 1), ("holds", "cart", 20),
)
BAD_NUMBERS = (
    ("hands", "till", 0), ("hands", "till", 10), ("takes", "till", (0,)), ("takes", "till", (100,)),
    ("takes", "till", (1, 1, 1, 0)), ("takes", "till", ()), ("takes", "till", (1, 1, 1, 1, 1)), ("opens", "o", 0, 0),
    ("opens", "o", 0, 1), ("opens", "o", 100, 1), ("opens", "o", 5, 0), ("opens", "o", 5, 6), ("opens", "o", 99, 100),
    ("below", "b", 0), ("below", "b", 61), ("holds", "cart", 0), ("holds", "cart", 21), ("holds", "cart", -1),
    ("hands", "till", -10 ** 40), ("hands", "till", 10 ** 40),
)


class Odd:
    """A thing that cannot be compared, hashed or counted."""
    __hash__ = None

    def __eq__(self, other):
        raise RuntimeError("not to be compared")

    def __len__(self):
        raise RuntimeError("not to be counted")


RING = []
RING.append(RING)
THINGS = (
    None, True, False, 0, 1, 5, -1, 2.0, 1.5, float("nan"), "", "x", "till", "hands", b"hands", (), [], {}, set(),
    ("hands",), ["hands"], Odd(), object(), int, len, RING, (RING,), {"hands": "till"}, range(3), ((),), ((), (), ()),
)


class NeedChangeTest(unittest.TestCase):
    def setUp(self):
        self.hall = hall_of(TEXT)

    def refused(self, change):
        with self.subTest(change=repr(type(change))):
            with self.assertRaises(BadChange):
                need_change(self.hall, change)

    def test_good_ones(self):
        for change in GOOD:
            with self.subTest(change=change):
                self.assertIsNone(need_change(self.hall, change))

    def test_numbers_beyond_their_bounds(self):
        for change in BAD_NUMBERS:
            self.refused(change)

    def test_true_is_no_number(self):
        for change in (
            ("hands", "till", True), ("takes", "till", (True,)), ("takes", "till", (1, True)),
            ("opens", "o", True, True), ("opens", "o", 5, True), ("opens", "o", True, 1), ("below", "b", True), ("holds", "cart", True),
        ):
            self.refused(change)

    def test_names_of_another_sort(self):
        for good in (
            ("hands", "till", 1), ("takes", "till", (1,)), ("opens", "o", 1, 1), ("below", "b", 1),
            ("by", "f", "least"), ("holds", "cart", 1),
        ):
            for name in NAMES + ("nowhere", "", "then"):
                if name != good[1]:
                    self.refused((good[0], name) + good[2:])

    def test_other_rules_and_words(self):
        for change in (
            ("by", "f", "most"), ("by", "f", ""), ("by", "f", "turn"), ("by", "f", "opens"), ("hand", "till", 1),
            ("rests", "till", ((1, 2),)), ("ranked", "till", True), ("pool", "cart", 5), ("then", "walk", "out"),
            ("below", "o", 5, 2), ("hands", "o", 5, 2), ("", "o", 5, 2), ("opens", "o", 5), ("below", "o", 5),
            ("takes", "walk", 3), ("takes", "walk", (3,)), ("rank", "a", 3), ("below", "b", 3, "till"),
            ("", "f", "turns"),
        ):
            self.refused(change)

    def test_too_short_and_too_long(self):
        for good in GOOD:
            for many in range(len(good)):
                self.refused(good[:many])
            self.refused(good + (1,))
            self.refused(good + (None,))
            self.refused((1,) + good)

    def test_lists_for_tuples(self):
        for good in GOOD:
            self.refused(list(good))
        self.refused(("takes", "till", [1, 2]))
        self.refused(("takes", "till", 1))
        self.refused(("takes", "till", 1, 2))
        self.refused(("opens", "o", (1, 1)))

    def test_each_part_put_otherwise(self):
        for good in GOOD:
            for place in range(len(good)):
                for thing in THINGS:
                    # Of these some may stand there: a number for another one, a text for itself.
                    if type(thing) in (int, str) and type(thing) is type(good[place]):
                        continue
                    self.refused(good[:place] + (thing,) + good[place + 1:])
        for thing in THINGS:
            if type(thing) is not int:
                self.refused(("takes", "till", (1, thing)))
        for text in ("", "x", "till", "hands"):
            self.refused((text, "f", "turns"))
            self.refused(("by", text, "turns"))
            self.refused(("by", "f", text))

    def test_anything(self):
        for thing in THINGS:
            self.refused(thing)
        self.refused((0, ("hands", "till", 1)))

    def test_the_hall_stays_as_it_was(self):
        for change in GOOD:
            need_change(self.hall, change)
        for change in BAD_NUMBERS:
            self.refused(change)
        self.assertEqual(self.hall, hall_of(TEXT))


class NeedChangesTest(unittest.TestCase):
    def setUp(self):
        self.hall = hall_of(TEXT)

    def good(self, changes):
        with self.subTest(changes=changes):
            self.assertIsNone(need_changes(self.hall, changes))

    def refused(self, changes):
        with self.subTest(changes=repr(type(changes))):
            with self.assertRaises(BadChange):
                need_changes(self.hall, changes)

    def test_none_and_one_and_all(self):
        self.good([])
        for change in GOOD:
            self.good([(0, change)])
        self.good([(turn, change) for turn, change in enumerate(GOOD)])

    def test_turns(self):
        one = ("hands", "till", 1)
        for turn in (0, 1, 998, 999):
            self.good([(turn, one)])
        for turn in (-1, 1000, 10 ** 40, -10 ** 40, True, False, None, "0", 1.0, (0,), [0]):
            self.refused([(turn, one)])
            self.refused([(0, one), (turn, one)])

    def test_rising_and_falling_turns(self):
        one = ("hands", "till", 1)
        self.good([(0, one), (0, one), (5, one), (5, one), (999, one)])
        self.refused([(1, one), (0, one)])
        self.refused([(0, one), (7, one), (6, one), (8, one)])
        self.refused([(999, one), (0, one)])

    def test_changes_that_are_none(self):
        one = ("hands", "till", 1)
        for change in BAD_NUMBERS + THINGS:
            self.refused([(3, change)])
            self.refused([(3, one), (3, change)])
            self.refused([(3, change), (3, one)])

    def test_pairs_that_are_none(self):
        one = ("hands", "till", 1)
        for thing in THINGS:
            self.refused([thing])
            self.refused([(0, one), thing])
        for thing in ([0, one], (0,), (0, one, one), (one, 0), one, (0,) + one, {0: one}):
            self.refused([thing])

    def test_lists_that_are_none(self):
        one = ("hands", "till", 1)
        for thing in THINGS:
            # A list without any changes is one.
            if type(thing) is not list or len(thing) > 0:
                self.refused(thing)
        self.refused(((0, one),))
        self.refused((0, one))
        self.refused({0: one})
        self.refused(one)

    def test_what_was_handed_in_stays_as_it_was(self):
        changes = [(turn, change) for turn, change in enumerate(GOOD)]
        need_changes(self.hall, changes)
        self.assertEqual(changes, [(turn, change) for turn, change in enumerate(GOOD)])
        falling = list(reversed(changes))
        self.refused(falling)
        self.assertEqual(falling, list(reversed(changes)))
        self.assertEqual(self.hall, hall_of(TEXT))


if __name__ == "__main__":
    unittest.main()
