import unittest

from hallclock import stations
from hallclock.stations import station_of
from hallclock.words import words

# Each row: a station's tuple, the name of its class, its statement, its thens.
ROWS = (
    (("pool", "cart", 5), "Pool", "pool cart holds 5.", []),
    (("pool", "p", 20), "Pool", "pool p holds 20.", []),
    (("door", "a", 0, ("at", (0,)), "b"), "Door", "door a at 0 then b.", ["b"]),
    (("door", "a", 0, ("at", (3, 3, 900)), "b"), "Door", "door a at 3 3 900 then b.", ["b"]),
    (("door", "a", 9, ("at", (1, 2)), "b"), "Door", "door a rank 9 at 1 2 then b.", ["b"]),
    (
        ("door", "a", 1, ("at", tuple(range(12))), "b"),
        "Door", "door a rank 1 at 0 1 2 3 4 5 6 7 8 9 10 11 then b.", ["b"],
    ),
    (
        ("door", "main", 0, ("draws", 7, 20, 1, 50, 900), "hall"),
        "Door", "door main draws 7 upto 20 gaps 1 to 50 from 900 then hall.", ["hall"],
    ),
    (
        ("door", "main", 3, ("draws", 0, 1, 0, 0, 0), "hall"),
        "Door", "door main rank 3 draws 0 upto 1 gaps 0 to 0 from 0 then hall.", ["hall"],
    ),
    (("way", "walk", 99, "till"), "Way", "way walk takes 99 then till.", ["till"]),
    (("desk", "till", 1, (4,), False, (), "out"), "Desk", "desk till hands 1 takes 4 then out.", ["out"]),
    (
        ("desk", "till", 9, (1, 2), True, (), "out"),
        "Desk", "desk till hands 9 takes 1 2 ranked then out.", ["out"],
    ),
    (
        ("desk", "till", 2, (1, 2, 3), False, ((0, 5),), "out"),
        "Desk", "desk till hands 2 takes 1 2 3 rests 0 to 5 then out.", ["out"],
    ),
    (
        ("desk", "till", 2, (9, 8, 7, 6), True, ((0, 5), (7, 999)), "out"),
        "Desk", "desk till hands 2 takes 9 8 7 6 ranked rests 0 to 5, 7 to 999 then out.", ["out"],
    ),
    (
        ("desk", "till", 2, (5,), False, ((0, 1), (2, 3), (4, 5)), "out"),
        "Desk", "desk till hands 2 takes 5 rests 0 to 1, 2 to 3, 4 to 5 then out.", ["out"],
    ),
    (("gate", "g", ("opens", 10, 3), "x"), "Gate", "gate g opens 10 for 3 then x.", ["x"]),
    (("gate", "g", ("below", 60, "till"), "x"), "Gate", "gate g below 60 at till then x.", ["x"]),
    (("gate", "g", ("below", 2, "g"), "x"), "Gate", "gate g below 2 at g then x.", ["x"]),
    (("fork", "f", "turns", ("a", "b")), "Fork", "fork f by turns then a, b.", ["a", "b"]),
    (("fork", "f", "number", ("c", "a", "b")), "Fork", "fork f by number then c, a, b.", ["c", "a", "b"]),
    (
        ("fork", "f", "least", ("a", "d", "a", "b")),
        "Fork", "fork f by least then a, d, a, b.", ["a", "d", "a", "b"],
    ),
    (("lend", "l", "cart", "x"), "Lend", "lend l of cart then x.", ["x"]),
    (("give", "back", "cart", "x"), "Give", "give back of cart then x.", ["x"]),
    (("exit", "out"), "Exit", "exit out.", []),
)
CLASSES = ("Pool", "Door", "Way", "Desk", "Gate", "Fork", "Lend", "Give", "Exit")
TIMED = ("Way", "Desk")


def as_lists(told):
    if isinstance(told, tuple):
        return [as_lists(part) for part in told]
    return told


class ClassesTest(unittest.TestCase):
    def test_each_class_stands_straight_under_station(self):
        for name in CLASSES:
            with self.subTest(name=name):
                self.assertEqual(getattr(stations, name).__bases__, (stations.Station,))
                self.assertEqual(getattr(stations, name).__subclasses__(), [])

    def test_station_is_a_plain_base(self):
        self.assertEqual(stations.Station.__bases__, (object,))
        for method in ("told", "shown", "name", "thens", "takes_time"):
            self.assertTrue(callable(getattr(stations.Station, method)))


class StationsTest(unittest.TestCase):
    def each_row(self, look):
        for told, kind, shown, thens in ROWS:
            with self.subTest(shown=shown):
                look(station_of(told), told, kind, shown, thens)

    def test_every_class_has_a_row(self):
        self.assertEqual(sorted({row[1] for row in ROWS}), sorted(CLASSES))

    def test_class(self):
        def look(station, told, kind, shown, thens):
            self.assertIs(type(station), getattr(stations, kind))
            self.assertIsInstance(station, stations.Station)
        self.each_row(look)

    def test_told(self):
        def look(station, told, kind, shown, thens):
            self.assertEqual(station.told(), told)
            # True equals 1, so the kinds are looked at by themselves.
            self.assertEqual(repr(station.told()), repr(told))
        self.each_row(look)

    def test_shown(self):
        def look(station, told, kind, shown, thens):
            self.assertEqual(station.shown(), shown)
        self.each_row(look)

    def test_shown_is_a_text_of_words(self):
        def look(station, told, kind, shown, thens):
            parted = " ".join(words(station.shown()))
            self.assertEqual(parted.replace(" ,", ",").replace(" .", "."), shown)
        self.each_row(look)

    def test_name(self):
        def look(station, told, kind, shown, thens):
            self.assertEqual(station.name(), told[1])
        self.each_row(look)

    def test_thens(self):
        def look(station, told, kind, shown, thens):
            self.assertEqual(station.thens(), thens)
            self.assertIs(type(station.thens()), list)
        self.each_row(look)

    def test_takes_time(self):
        def look(station, told, kind, shown, thens):
            self.assertIs(station.takes_time(), kind in TIMED)
        self.each_row(look)

    def test_told_again_it_is_the_same(self):
        def look(station, told, kind, shown, thens):
            again = station_of(station.told())
            self.assertEqual(again.told(), told)
            self.assertEqual(again.shown(), shown)
            self.assertIs(type(again), type(station))
        self.each_row(look)

    def test_told_thens_are_the_askers_own(self):
        def look(station, told, kind, shown, thens):
            asked = station.thens()
            asked.append("more")
            asked[0] = "other"
            self.assertEqual(station.thens(), thens)
            self.assertEqual(station.told(), told)
            self.assertEqual(station.shown(), shown)
        self.each_row(look)

    def test_what_is_handed_in_is_not_changed(self):
        def look(station, told, kind, shown, thens):
            handed = as_lists(told)
            other = station_of(handed)
            other.thens().append("more")
            self.assertEqual(other.shown(), shown)
            self.assertEqual(handed, as_lists(told))
        self.each_row(look)

    def test_rank_0_is_told_but_not_shown(self):
        door = station_of(("door", "a", 0, ("at", (5,)), "b"))
        self.assertEqual(door.told()[2], 0)
        self.assertNotIn("rank", door.shown())

    def test_what_is_changed_after_it_was_handed_in_changes_nothing(self):
        turns = [1, 2]
        door = station_of(("door", "a", 0, ("at", turns), "b"))
        turns.append(3)
        self.assertEqual(door.told(), ("door", "a", 0, ("at", (1, 2)), "b"))
        self.assertEqual(door.shown(), "door a at 1 2 then b.")
        handed = ["fork", "f", "turns", ["a", "b"]]
        fork = station_of(handed)
        handed[3].append("c")
        handed[1] = "other"
        self.assertEqual(fork.told(), ("fork", "f", "turns", ("a", "b")))
        self.assertEqual(fork.thens(), ["a", "b"])

    def test_numbers_and_lengths_beyond_their_bounds_are_let_by(self):
        rows = (
            (("pool", "p", 0), "pool p holds 0."),
            (("pool", "p", 10000), "pool p holds 10000."),
            (("way", "w", -1, "x"), "way w takes -1 then x."),
            (("door", "a", 10, ("at", (9, 3)), "b"), "door a rank 10 at 9 3 then b."),
            (("door", "a", 0, ("at", tuple(range(13))), "b"), "door a at 0 1 2 3 4 5 6 7 8 9 10 11 12 then b."),
            (
                ("door", "a", 0, ("draws", 101, 21, 51, 3, 901), "b"),
                "door a draws 101 upto 21 gaps 51 to 3 from 901 then b.",
            ),
            (
                ("desk", "d", 10, (1, 2, 3, 4, 100), False, ((5, 5), (1, 0), (0, 1), (2, 3)), "x"),
                "desk d hands 10 takes 1 2 3 4 100 rests 5 to 5, 1 to 0, 0 to 1, 2 to 3 then x.",
            ),
            (("gate", "g", ("opens", 3, 4), "x"), "gate g opens 3 for 4 then x."),
            (("fork", "f", "turns", ("a",)), "fork f by turns then a."),
            (("fork", "f", "turns", ("a", "b", "c", "d", "e")), "fork f by turns then a, b, c, d, e."),
        )
        for told, shown in rows:
            with self.subTest(shown=shown):
                station = station_of(told)
                self.assertEqual(station.told(), told)
                self.assertEqual(station.shown(), shown)

    def test_a_station_may_be_named_by_a_told_word(self):
        station = station_of(("way", "then", 3, "exit"))
        self.assertEqual(station.name(), "then")
        self.assertEqual(station.shown(), "way then takes 3 then exit.")


if __name__ == "__main__":
    unittest.main()
