import unittest

from hallclock.reading import hall_of, read
from hallclock.writing import written

HALL = (
    ("pool", "cart", 5),
    ("door", "a", 0, ("at", (0, 3, 3)), "l"),
    ("door", "b", 9, ("draws", 7, 20, 1, 50, 900), "l"),
    ("lend", "l", "cart", "walk"),
    ("way", "walk", 99, "f"),
    ("fork", "f", "least", ("till", "g", "h")),
    ("desk", "till", 2, (1, 2, 3), True, ((0, 5), (7, 999)), "back"),
    ("gate", "g", ("opens", 10, 3), "back"),
    ("gate", "h", ("below", 2, "h"), "back"),
    ("give", "back", "cart", "out"),
    ("exit", "out"),
)
TEXT = """pool cart holds 5.
door a at 0 3 3 then l.
door b rank 9 draws 7 upto 20 gaps 1 to 50 from 900 then l.
lend l of cart then walk.
way walk takes 99 then f.
fork f by least then till, g, h.
desk till hands 2 takes 1 2 3 ranked rests 0 to 5, 7 to 999 then back.
gate g opens 10 for 3 then back.
gate h below 2 at h then back.
give back of cart then out.
exit out."""


class WritingTest(unittest.TestCase):
    def test_written(self):
        self.assertEqual(written(list(HALL)), TEXT)

    def test_one_station_has_no_line_end(self):
        self.assertEqual(written([("exit", "out")]), "exit out.")

    def test_no_station(self):
        self.assertEqual(written([]), "")
        self.assertEqual(hall_of(written([])), [])

    def test_what_is_written_is_read_to_the_same(self):
        again = hall_of(written(list(HALL)))
        self.assertEqual(again, list(HALL))
        self.assertEqual(repr(again), repr(list(HALL)))
        self.assertEqual([station.told() for station in read(TEXT)], list(HALL))

    def test_a_text_of_another_form_is_written_alike(self):
        self.assertEqual(written(hall_of(TEXT.replace(" ", "\n  ").replace("door a", "door a rank 0"))), TEXT)

    def test_the_hall_stays_as_it_was(self):
        hall = list(HALL)
        written(hall)
        self.assertEqual(hall, list(HALL))
        hall.pop()
        self.assertEqual(written(hall), TEXT[:TEXT.rindex("\n")])


if __name__ == "__main__":
    unittest.main()
