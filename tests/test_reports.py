import fractions
import random
import unittest

from hallclock.book import counts, services, stays
from hallclock.events import Run
from hallclock.reading import hall_of
from hallclock.reports import fraction, mean, report, shown_fraction
from tests.halls import some_changes, some_hall


def report_of(text, turns, changes=None):
    run = Run(hall_of(text), changes)
    run.go(turns)
    return report(hall_of(text), run.book(), turns)


class FractionsTest(unittest.TestCase):
    def test_by_hand(self):
        for top, bottom, wanted in (
            (1, 2, (1, 2)), (2, 4, (1, 2)), (4, 2, (2, 1)), (0, 5, (0, 1)), (0, -5, (0, 1)), (-1, 2, (-1, 2)),
            (1, -2, (-1, 2)), (-1, -2, (1, 2)), (-6, 4, (-3, 2)), (6, -4, (-3, 2)), (-4, -2, (2, 1)), (7, 1, (7, 1)),
            (7, -1, (-7, 1)), (5, 5, (1, 1)), (-5, 5, (-1, 1)), (12, 18, (2, 3)), (1, 1, (1, 1)), (0, 1, (0, 1)),
        ):
            self.assertEqual(fraction(top, bottom), wanted)

    def test_against_pythons_own(self):
        dice = random.Random(1)
        for _ in range(500):
            top, bottom = (dice.randint(-10 ** dice.choice((1, 3, 100)), 10 ** dice.choice((1, 3, 100))) for _ in "ab")
            if bottom != 0:
                wanted = fractions.Fraction(top, bottom)
                found = fraction(top, bottom)
                self.assertEqual(found, (wanted.numerator, wanted.denominator))
                self.assertEqual([type(part) for part in found], [int, int])

    def test_great_ones(self):
        self.assertEqual(fraction(10 ** 99, 10 ** 98), (10, 1))
        self.assertEqual(fraction(10 ** 99 + 1, 10 ** 99), (10 ** 99 + 1, 10 ** 99))
        self.assertEqual(fraction(-(3 ** 200), 3 ** 199), (-3, 1))

    def test_means(self):
        for numbers, wanted in (
            ([5], (5, 1)), ([1, 2], (3, 2)), ([0, 0], (0, 1)), ([-1, 0], (-1, 2)), ([2, 4, 6], (4, 1)),
            ([-3, 3], (0, 1)), ([1, 1, 2], (4, 3)), ([10 ** 99, 10 ** 99], (10 ** 99, 1)),
        ):
            handed = list(numbers)
            self.assertEqual(mean(handed), wanted)
            self.assertEqual(handed, numbers)

    def test_shown(self):
        for one, wanted in (
            ((0, 1), "0"), ((5, 1), "5"), ((-5, 1), "-5"), ((1, 2), "1/2"), ((-3, 2), "-3/2"), ((10, 3), "10/3"),
            ((1, 10 ** 20), "1/1" + "0" * 20), ((-(10 ** 20), 1), "-1" + "0" * 20), ((1, 1), "1"), ((11, 11 ** 2),
            "11/121"),
        ):
            self.assertEqual(shown_fraction(one), wanted)


class ReportTest(unittest.TestCase):
    TEXT = """
    pool p holds 1. exit x.
    door a at 0 1 then w. way w takes 2 then d. desk d hands 1 takes 3 then x.
    door longname at 900 then idle. desk idle hands 9 takes 1 then x.
    """

    def test_by_hand(self):
        self.assertEqual(report_of(self.TEXT, 10), [
            "x          2 7/2 2",
            "a          2 0 0",
            "w          2 2 2",
            # Stays of 3 and 5, waitings of 0 and 2, six of ten turns served.
            "d          2 4 2 1 2/5",
            "longname   0 - 0",
            "idle       0 - 0 - 1",
        ])

    def test_who_still_stands_and_is_served(self):
        self.assertEqual(report_of(self.TEXT, 4), [
            "x          0 - 0",
            "a          2 0 0",
            "w          2 2 2",
            # Stays of 2 and 1; one service was begun, without waiting, two of four turns served.
            "d          2 3/2 2 0 1/2",
            "longname   0 - 0",
            "idle       0 - 0 - 1",
        ])

    def test_no_turns(self):
        self.assertEqual(report_of(self.TEXT, 0), [
            "x          0 - 0", "a          0 - 0", "w          0 - 0", "d          0 - 0 - -",
            "longname   0 - 0", "idle       0 - 0 - -",
        ])

    def test_a_desk_that_never_idles(self):
        lines = report_of("door a at 0 0 then d. desk d hands 1 takes 99 then x. exit x.", 10)
        self.assertEqual(lines[1], "d          2 10 2 0 0")

    def test_an_idle_share_below_nought(self):
        text = "door a at 0 0 0 then d. desk d hands 1 takes 10 then x. exit x."
        lines = report_of(text, 10, [(0, ("hands", "d", 3))])
        self.assertEqual(lines, ["a          3 0 0", "d          3 10 3 0 -2", "x          0 - 0"])
        lines = report_of(text, 8, [(4, ("hands", "d", 2))])
        self.assertEqual(lines[1], "d          3 8 3 2 -1/2")

    def test_more_stays_than_two_figures(self):
        doors = "".join(f"door d{'abcde'[k]} at 0 0 0 0 0 0 0 0 0 0 0 0 then w." for k in range(5))
        lines = report_of(doors + "way w takes 1 then w.", 17)
        self.assertEqual(lines[-1], "w        1020 1 60")
        lines = report_of(doors + "way w takes 1 then w.", 3)
        self.assertEqual(lines[-1], "w        180 1 60")
        self.assertEqual(lines[0], "da        12 0 0")

    def test_nothing_stands_behind_the_last_thing(self):
        for turns in (0, 1, 10, 1000):
            for line in report_of(self.TEXT, turns):
                self.assertEqual(line, line.rstrip())

    def test_random_halls(self):
        for seed in range(30):
            dice = random.Random(6000 + seed)
            hall = some_hall(dice)
            turns = dice.choice((1, 40, 120))
            run = Run(hall, some_changes(dice, hall))
            run.go(turns)
            book = run.book()
            self.assertEqual(report(hall, book, turns), [
                self.line(hall, told, book, turns) for told in hall if told[0] != "pool"
            ])

    def shown(self, value):
        return str(fractions.Fraction(value))

    def line(self, hall, told, book, turns):
        name = told[1]
        spent = [to - since for _, since, to in stays(hall, book, turns)[name]]
        average = self.shown(fractions.Fraction(sum(spent), len(spent))) if spent else "-"
        line = f"{name:8} {len(spent):3} {average} {max(counts(hall, book, turns)[name])}"
        if told[0] != "desk":
            return line
        waited = []
        for number, since, _ in services(hall, book, turns)[name]:
            entered = max(turn for turn, other, word, where in book
                          if other == number and word == "enters" and where == name and turn <= since)
            waited.append(since - entered)
        served = sum(to - since for _, since, to in services(hall, book, turns)[name])
        average = self.shown(fractions.Fraction(sum(waited), len(waited))) if waited else "-"
        return f"{line} {average} {self.shown(1 - fractions.Fraction(served, told[2] * turns))}"

    def test_own(self):
        hall = hall_of(self.TEXT)
        run = Run(hall)
        run.go(10)
        book = run.book()
        lines = report(hall, book, 10)
        again = list(lines)
        lines.clear()
        self.assertEqual(report(hall, book, 10), again)
        self.assertEqual((hall, book), (hall_of(self.TEXT), run.book()))


if __name__ == "__main__":
    unittest.main()
