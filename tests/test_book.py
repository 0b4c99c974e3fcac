import random
import unittest

from hallclock.book import counts, line_of, services, stays
from hallclock.events import Run
from hallclock.reading import hall_of
from tests.halls import some_changes, some_hall
from tests.model import Model

TEXT = """
pool p holds 1. exit x.
door a at 0 1 then w. way w takes 2 then d. desk d hands 1 takes 3 then x.
door b at 900 then y. exit y.
"""
# 0 comes 0, at w 0 to 2, at d 2 to 5, served 2 to 5, at x from 5.
# 1 comes 1, at w 1 to 3, at d 3 to 8, served 5 to 8, at x from 8.


def book_of(hall, turns, changes=None):
    run = Run(hall, changes)
    run.go(turns)
    return run.book()


class LinesTest(unittest.TestCase):
    def test_line(self):
        self.assertEqual(line_of((7, 3, "begins", "till")), "0007 v03 begins till")

    def test_numbers_of_each_width(self):
        for turn, turn_shown in ((0, "0000"), (9, "0009"), (10, "0010"), (99, "0099"), (123, "0123"), (999, "0999"),
                                 (1000, "1000"), (12345, "12345")):
            for number, number_shown in ((0, "00"), (9, "09"), (10, "10"), (59, "59"), (100, "100")):
                for word, name in (("comes", "a"), ("enters", "abcdefgh"), ("begins", "till")):
                    wanted = f"{turn_shown} v{number_shown} {word} {name}"
                    self.assertEqual(line_of((turn, number, word, name)), wanted)


class StaysTest(unittest.TestCase):
    def setUp(self):
        self.hall = hall_of(TEXT)

    def test_stays(self):
        self.assertEqual(stays(self.hall, book_of(self.hall, 20), 20), {
            "x": [(0, 5, 20), (1, 8, 20)], "a": [(0, 0, 0), (1, 1, 1)], "w": [(0, 0, 2), (1, 1, 3)],
            "d": [(0, 2, 5), (1, 3, 8)], "b": [], "y": [],
        })

    def test_services(self):
        self.assertEqual(services(self.hall, book_of(self.hall, 20), 20), {"d": [(0, 2, 5), (1, 5, 8)]})

    def test_who_still_stands_somewhere(self):
        for turns, wanted in (
            (1, ([(0, 0, 1)], [], [])), (3, ([(0, 0, 2), (1, 1, 3)], [(0, 2, 3)], [(0, 2, 3)])),
            (4, ([(0, 0, 2), (1, 1, 3)], [(0, 2, 4), (1, 3, 4)], [(0, 2, 4)])),
            (6, ([(0, 0, 2), (1, 1, 3)], [(0, 2, 5), (1, 3, 6)], [(0, 2, 5), (1, 5, 6)])),
        ):
            book = book_of(self.hall, turns)
            found = stays(self.hall, book, turns)
            self.assertEqual((found["w"], found["d"], services(self.hall, book, turns)["d"]), wanted)

    def test_more_turns_than_the_book_tells_of(self):
        book = book_of(self.hall, 20)
        self.assertEqual(stays(self.hall, book, 1000)["x"], [(0, 5, 1000), (1, 8, 1000)])

    def test_no_turns(self):
        names = ["x", "a", "w", "d", "b", "y"]
        self.assertEqual(stays(self.hall, [], 0), {name: [] for name in names})
        self.assertEqual(services(self.hall, [], 0), {"d": []})
        self.assertEqual(counts(self.hall, [], 0), {name: [] for name in names})

    def test_turns_without_anybody(self):
        self.assertEqual(counts(self.hall, [], 3)["w"], [0, 0, 0])
        self.assertEqual(stays(self.hall, [], 3)["w"], [])

    def test_the_order_of_names(self):
        book = book_of(self.hall, 20)
        names = ["x", "a", "w", "d", "b", "y"]
        self.assertEqual(list(stays(self.hall, book, 20)), names)
        self.assertEqual(list(counts(self.hall, book, 20)), names)
        hall = hall_of("desk z hands 1 takes 1 then x. exit x. desk d hands 1 takes 1 then z. door a at 0 then d.")
        self.assertEqual(list(services(hall, book_of(hall, 9), 9)), ["z", "d"])

    def test_the_order_of_tuples_is_that_of_beginning(self):
        hall = hall_of("door a at 0 then v. door b at 0 then w. way v takes 9 then d. way w takes 1 then d."
                       "desk d hands 2 takes 30 1 then x. exit x.")
        book = book_of(hall, 60)
        self.assertEqual(stays(hall, book, 60)["d"], [(1, 1, 31), (0, 9, 10)])
        self.assertEqual(services(hall, book, 60)["d"], [(1, 1, 31), (0, 9, 10)])
        self.assertEqual(stays(hall, book, 60)["x"], [(0, 10, 60), (1, 31, 60)])

    def test_a_visitor_several_times_at_a_station(self):
        hall = hall_of("door a at 0 then d. desk d hands 1 takes 2 3 then d.")
        book = book_of(hall, 8)
        self.assertEqual(stays(hall, book, 8), {"a": [(0, 0, 0)], "d": [(0, 0, 2), (0, 2, 5), (0, 5, 7), (0, 7, 8)]})
        self.assertEqual(services(hall, book, 8)["d"], [(0, 0, 2), (0, 2, 5), (0, 5, 7), (0, 7, 8)])
        self.assertEqual(counts(hall, book, 8), {"a": [0] * 8, "d": [1] * 8})


class CountsTest(unittest.TestCase):
    def test_counts(self):
        hall = hall_of(TEXT)
        self.assertEqual(counts(hall, book_of(hall, 10), 10), {
            "x": [0, 0, 0, 0, 0, 1, 1, 1, 2, 2], "a": [0] * 10, "w": [1, 2, 1, 0, 0, 0, 0, 0, 0, 0],
            "d": [0, 0, 1, 2, 2, 1, 1, 1, 0, 0], "b": [0] * 10, "y": [0] * 10,
        })

    def test_random_halls(self):
        for seed in range(40):
            dice = random.Random(5000 + seed)
            hall = some_hall(dice)
            changes = some_changes(dice, hall)
            model = Model(hall, changes)
            turns = dice.choice((1, 30, 90))
            seen = {told[1]: [] for told in hall if told[0] != "pool"}
            for _ in range(turns):
                model.step()
                for name, numbers in seen.items():
                    numbers.append(len(model.at(name)))
            self.assertEqual(counts(hall, model.book, turns), seen)
            self.look(hall, model.book, turns, seen)

    def look(self, hall, book, turns, seen):
        found = stays(hall, book, turns)
        self.assertEqual(list(found), list(seen))
        for name, numbers in seen.items():
            self.assertEqual(sum(numbers), sum(to - since for _, since, to in found[name]))
        for name, served in services(hall, book, turns).items():
            begun = [(number, turn) for turn, number, word, where in book if (word, where) == ("begins", name)]
            self.assertEqual([(number, since) for number, since, _ in served], begun)
            for number, since, to in served:
                ends = [last for one, first, last in found[name] if one == number and first <= since]
                self.assertIn(to, ends)


class OwnTest(unittest.TestCase):
    def test_told_dicts_and_lists_are_the_askers_own(self):
        hall = hall_of(TEXT)
        book = book_of(hall, 20)
        for asked in (stays, services, counts):
            found = asked(hall, book, 20)
            again = asked(hall, book, 20)
            self.assertEqual(found, again)
            found["d"].append("more")
            found["more"] = []
            self.assertEqual(asked(hall, book, 20), again)

    def test_nothing_that_is_handed_in_is_changed(self):
        hall = hall_of(TEXT)
        book = book_of(hall, 20)
        kept = list(book)
        for asked in (stays, services, counts):
            asked(hall, book, 20)
        self.assertEqual((hall, book), (hall_of(TEXT), kept))


if __name__ == "__main__":
    unittest.main()
