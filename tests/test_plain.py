import random
import unittest

from hallclock.errors import BadChange, BadLoan, BadName, BadNumber, BadRing, NoDoor, TooMany
from hallclock.floor import Floor
from hallclock.plain import Plain
from hallclock.reading import hall_of
from tests.halls import some_changes, some_hall
from tests.model import Model


def steps(plain, many):
    return [plain.step() for _ in range(many)]


# Halls that are none, each with its refusal.
BAD_HALLS = (
    ("exit x. exit x.", BadName), ("door a at 0 then y. exit x.", BadName), ("pool p holds 0.", BadNumber),
    ("".join(f"pool p{'abcde'[k]} holds 1." for k in range(5)), TooMany), ("exit x.", NoDoor), ("", NoDoor),
    ("door a at 0 then g. gate g opens 1 for 1 then g.", BadRing),
    ("pool p holds 1. door a at 0 then g. give g of p then x. exit x.", BadLoan),
)

# Things that are no changes of the hall with the desk d.
BAD_CHANGES = (
    5, (), "", {}, False, [5], [(0, ("hands", "x", 1))], [(1000, ("hands", "d", 1))], [("hands", "d", 1)],
    [(1, ("hands", "d", 1)), (0, ("hands", "d", 1))], [(0, ("hands", "d", 10))],
)


class StepsTest(unittest.TestCase):
    def test_a_hall_by_hand(self):
        plain = Plain(hall_of("door a at 0 1 then w. way w takes 2 then d. desk d hands 1 takes 3 then x. exit x."))
        self.assertEqual(steps(plain, 8), [
            [(0, 0, "comes", "a"), (0, 0, "enters", "w")],
            [(1, 1, "comes", "a"), (1, 1, "enters", "w")],
            [(2, 0, "enters", "d"), (2, 0, "begins", "d")],
            [(3, 1, "enters", "d")],
            [],
            [(5, 0, "enters", "x"), (5, 1, "begins", "d")],
            [],
            [],
        ])
        self.assertEqual(plain.step(), [(8, 1, "enters", "x")])
        self.assertEqual(plain.turn(), 9)

    def test_turn_and_book_behind_each_step(self):
        plain = Plain(hall_of("door a at 1 3 then x. exit x."))
        self.assertEqual((plain.turn(), plain.book()), (0, []))
        book = []
        for turn in range(6):
            entries = plain.step()
            self.assertTrue(all(entry[0] == turn for entry in entries))
            book.extend(entries)
            self.assertEqual(plain.turn(), turn + 1)
            self.assertEqual(plain.book(), book)
        self.assertEqual(book, [
            (1, 0, "comes", "a"), (1, 0, "enters", "x"), (3, 1, "comes", "a"), (3, 1, "enters", "x"),
        ])

    def test_several_doors_at_one_turn(self):
        plain = Plain(hall_of(
            "exit x. door c at 2 2 then x. door a at 2 then x. door b draws 0 upto 3 gaps 0 to 0 from 2 then x."
        ))
        self.assertEqual(steps(plain, 2), [[], []])
        self.assertEqual(plain.step(), [
            (2, 0, "comes", "c"), (2, 1, "comes", "c"), (2, 2, "comes", "a"), (2, 3, "comes", "b"),
            (2, 4, "comes", "b"), (2, 5, "comes", "b"),
        ] + [(2, number, "enters", "x") for number in range(6)])

    def test_the_least_number_moves_whenever_it_can(self):
        # Number 0 goes on as far as it can ahead of number 1.
        plain = Plain(hall_of(
            "pool p holds 1. door a at 0 0 then l. lend l of p then g. give g of p then f."
            "fork f by turns then x, y. exit x. exit y."
        ))
        self.assertEqual(plain.step(), [
            (0, 0, "comes", "a"), (0, 1, "comes", "a"),
            (0, 0, "enters", "l"), (0, 0, "enters", "g"), (0, 0, "enters", "f"), (0, 0, "enters", "x"),
            (0, 1, "enters", "l"), (0, 1, "enters", "g"), (0, 1, "enters", "f"), (0, 1, "enters", "y"),
        ])

    def test_who_is_freed_by_a_later_number_goes_ahead_of_still_later_ones(self):
        # Number 0 waits at the lend till number 1 gives back; then 0 moves ahead of 1 and 2.
        plain = Plain(hall_of(
            "pool p holds 1. door a at 0 then w. way w takes 2 then l. door b at 1 then l. door c at 3 then x."
            "lend l of p then f. fork f by number then v, u. way v takes 9 then g. way u takes 2 then g."
            "give g of p then o. gate o opens 1 for 1 then x. exit x."
        ))
        steps(plain, 3)
        self.assertEqual(plain.floor().where(0), ("l", 2, None))
        self.assertEqual(plain.step(), [
            (3, 2, "comes", "c"), (3, 1, "enters", "g"), (3, 1, "enters", "o"),
            (3, 0, "enters", "f"), (3, 0, "enters", "v"), (3, 1, "enters", "x"), (3, 2, "enters", "x"),
        ])

    def test_drawn_comings_beyond_the_last_turn(self):
        plain = Plain(hall_of("door a draws 0 upto 20 gaps 50 to 50 from 900 then x. exit x."))
        steps(plain, 1000)
        self.assertEqual(plain.turn(), 1000)
        self.assertEqual([entry[0] for entry in plain.book() if entry[2] == "comes"], [900, 950])

    def test_random_halls(self):
        for seed in range(50):
            dice = random.Random(seed)
            hall = some_hall(dice)
            changes = some_changes(dice, hall)
            plain, model = Plain(hall, changes), Model(hall, changes)
            for _ in range(170):
                self.assertEqual(plain.step(), model.step(), (hall, changes))
            self.assertEqual(plain.book(), model.book)


class ChangesTest(unittest.TestCase):
    TEXT = "pool p holds 1. door a at 2 2 then l. lend l of p then w. way w takes 9 then g. give g of p then x. exit x."

    def test_changes_go_ahead_of_comings_and_moves(self):
        plain = Plain(hall_of(self.TEXT), [(2, ("holds", "p", 1))])
        steps(plain, 3)
        self.assertEqual(plain.floor().at("w"), [0, 1])
        plain = Plain(hall_of(self.TEXT), [(3, ("holds", "p", 1))])
        steps(plain, 3)
        self.assertEqual(plain.floor().at("w"), [0])
        self.assertEqual(plain.floor().left("p"), 0)
        self.assertEqual(plain.step(), [(3, 1, "enters", "w")])

    def test_changes_of_one_turn_are_made_in_order(self):
        text = "door a at 0 then d. desk d hands 1 takes 5 then x. exit x."
        for first, second in ((3, 4), (4, 3)):
            plain = Plain(hall_of(text), [(0, ("takes", "d", (first,))), (0, ("takes", "d", (second,)))])
            plain.step()
            self.assertEqual(plain.floor().where(0), ("d", 0, second))

    def test_a_change_at_the_last_turn(self):
        plain = Plain(hall_of(self.TEXT), [(0, ("holds", "p", 1)), (999, ("holds", "p", 20))])
        steps(plain, 999)
        self.assertEqual(plain.floor().left("p"), 2)
        plain.step()
        self.assertEqual(plain.floor().left("p"), 22)

    def test_no_changes(self):
        books = []
        for plain in (Plain(hall_of(self.TEXT)), Plain(hall_of(self.TEXT), None), Plain(hall_of(self.TEXT), []),
                      Plain(hall=hall_of(self.TEXT), changes=None)):
            steps(plain, 30)
            books.append(plain.book())
        self.assertEqual(books, books[:1] * 4)


class RefusalsTest(unittest.TestCase):
    def test_halls_that_are_none(self):
        for text, kind in BAD_HALLS:
            with self.assertRaises(kind):
                Plain(hall_of(text))
            # The hall goes ahead of the changes.
            with self.assertRaises(kind):
                Plain(hall_of(text), [(0, ("hands", "nowhere", 1))])
            with self.assertRaises(kind):
                Plain(hall_of(text), 5)

    def test_changes_that_are_none(self):
        hall = hall_of("door a at 0 then d. desk d hands 1 takes 5 then x. exit x.")
        for changes in BAD_CHANGES:
            with self.assertRaises(BadChange):
                Plain(hall, changes)
        self.assertEqual(hall, hall_of("door a at 0 then d. desk d hands 1 takes 5 then x. exit x."))


class OwnTest(unittest.TestCase):
    TEXT = "pool p holds 1. door a at 0 2 then l. lend l of p then w. way w takes 9 then g. give g of p then x. exit x."

    def test_what_is_changed_behind_changes_nothing(self):
        hall, changes = hall_of(self.TEXT), [(2, ("holds", "p", 1))]
        plain, other = Plain(hall, changes), Plain(hall_of(self.TEXT), [(2, ("holds", "p", 1))])
        hall.clear()
        changes[0] = (2, ("holds", "p", 20))
        changes.append((3, ("holds", "p", 20)))
        self.assertEqual(steps(plain, 20), steps(other, 20))
        self.assertEqual(plain.floor().left("p"), other.floor().left("p"))

    def test_nothing_that_is_handed_in_is_changed(self):
        hall, changes = hall_of(self.TEXT), [(2, ("holds", "p", 1))]
        steps(Plain(hall, changes), 20)
        self.assertEqual((hall, changes), (hall_of(self.TEXT), [(2, ("holds", "p", 1))]))

    def test_told_lists_are_the_askers_own(self):
        plain = Plain(hall_of(self.TEXT))
        entries = plain.step()
        book = plain.book()
        kept = list(book)
        plain.step()
        plain.step()
        self.assertEqual((entries, book), (kept, kept))
        entries.clear()
        book.append("more")
        self.assertEqual(plain.book()[:len(kept)], kept)
        self.assertNotIn("more", plain.book())

    def test_the_floor(self):
        plain = Plain(hall_of(self.TEXT))
        floor = plain.floor()
        self.assertIsInstance(floor, Floor)
        self.assertEqual(floor.many(), 0)
        plain.step()
        self.assertEqual(plain.floor().where(0), ("w", 0, None))
        self.assertEqual(plain.floor().held(0), ["p"])

    def test_two_side_by_side(self):
        hall = hall_of(self.TEXT)
        one, other = Plain(hall, [(1, ("holds", "p", 3))]), Plain(hall)
        steps(one, 5)
        self.assertEqual((other.turn(), other.book(), other.floor().left("p")), (0, [], 1))
        steps(other, 5)
        self.assertEqual((one.floor().at("w"), other.floor().at("w")), ([0, 1], [0]))


if __name__ == "__main__":
    unittest.main()
