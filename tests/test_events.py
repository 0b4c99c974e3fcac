import random
import unittest

from hallclock.errors import BadChange
from hallclock.events import Run
from hallclock.floor import Floor
from hallclock.plain import Plain
from hallclock.reading import hall_of
from tests.halls import some_change, some_changes, some_hall
from tests.model import Model
from tests.test_plain import BAD_CHANGES, BAD_HALLS


def run_of(text, changes=None):
    return Run(hall_of(text), changes)


def stand(hall, floor):
    """All that a floor tells of itself."""
    people = [(floor.where(number), floor.held(number)) for number in range(floor.many())]
    return people, [floor.left(told[1]) if told[0] == "pool" else floor.at(told[1]) for told in hall]


class DueTest(unittest.TestCase):
    def dues(self, run, upto):
        """The turns that were looked at and the due ones, one by one, each done when it is told."""
        found = run.looked()
        while run.due() is not None and run.due() < upto:
            turn = run.due()
            found.append(turn)
            run.go(turn + 1)
        self.assertEqual(run.looked(), found)
        return found

    def test_comings(self):
        run = run_of("door a at 3 3 900 then x. door b draws 0 upto 3 gaps 50 to 50 from 900 then x. exit x.")
        self.assertEqual(run.due(), 3)
        self.assertEqual(self.dues(run, 1000), [3, 900, 950])
        # However great: the last one comes at a turn that is not gone to.
        self.assertEqual(run.due(), 1000)
        self.assertEqual(run.looked(), [3, 900, 950])

    def test_nothing_is_due(self):
        run = run_of("door a at 3 then x. exit x.")
        run.go(3)
        self.assertEqual(run.due(), 3)
        run.go(4)
        self.assertIsNone(run.due())
        run.go(1000)
        self.assertIsNone(run.due())
        self.assertEqual(run.looked(), [3])

    def test_changes(self):
        changes = [(0, ("holds", "p", 1)), (5, ("holds", "p", 1)), (5, ("holds", "p", 1)), (999, ("holds", "p", 1))]
        run = run_of("pool p holds 1. door a at 3 then x. exit x.", changes)
        self.assertEqual(self.dues(run, 1000), [0, 3, 5, 999])
        self.assertEqual(run.floor().left("p"), 5)

    def test_ways(self):
        run = run_of("door a at 3 5 then w. way w takes 7 then v. way v takes 1 then x. exit x.")
        self.assertEqual(self.dues(run, 1000), [3, 5, 10, 11, 12, 13])

    def test_a_way_that_ends_beyond_1000(self):
        run = run_of("door a at 900 then w. way w takes 99 then v. way v takes 98 then x. exit x.")
        run.go(1000)
        self.assertEqual(run.due(), 1097)
        self.assertEqual(run.turn(), 1000)

    def test_services(self):
        run = run_of("door a at 3 3 then d. desk d hands 1 takes 4 9 then x. exit x.")
        self.assertEqual(self.dues(run, 1000), [3, 7, 16])

    def test_gates_that_open(self):
        run = run_of("door a at 2 6 11 12 then g. gate g opens 5 for 2 then x. exit x.")
        # Number 0 waits from 2 to 5, number 1 comes by at once, as does number 2, number 3 waits.
        self.assertEqual(self.dues(run, 1000), [2, 5, 6, 11, 12, 15])

    def test_a_gate_with_nobody_at_it_is_not_due(self):
        run = run_of("door a at 0 then g. gate g opens 5 for 1 then x. exit x.")
        self.assertEqual(self.dues(run, 1000), [0])

    def test_a_gate_whose_rule_is_changed(self):
        run = run_of("door a at 2 then g. gate g opens 50 for 1 then x. exit x.", [(4, ("opens", "g", 9, 1))])
        run.go(4)
        # As things stand at 4 the change is due first; behind it the gate opens at 9.
        self.assertEqual(run.due(), 4)
        self.assertEqual(self.dues(run, 1000), [2, 4, 9])

    def test_gates_that_look_are_not_due_by_themselves(self):
        run = run_of("door a at 0 0 then g. gate g below 1 at w then w. way w takes 6 then x. exit x.")
        self.assertEqual(self.dues(run, 1000), [0, 6, 12])

    def test_who_waits_for_a_thing_is_not_due(self):
        run = run_of("pool p holds 1. door a at 0 0 then l. lend l of p then w. way w takes 6 then g."
                     "give g of p then x. exit x.")
        self.assertEqual(self.dues(run, 1000), [0, 6, 12])

    def test_rests(self):
        run = run_of("door a at 5 then d. desk d hands 1 takes 4 rests 2 to 3, 4 to 9, 7 to 8 then x. exit x.")
        # At 8 a rest ends, though another one goes on.
        self.assertEqual(self.dues(run, 1000), [5, 8, 9, 13])

    def test_a_rest_ends_for_nobody(self):
        run = run_of("door a at 2 then d. desk d hands 1 takes 20 rests 5 to 9 then x. exit x.")
        self.assertEqual(self.dues(run, 1000), [2, 22])

    def test_a_rest_ends_for_who_waits_behind_one_who_is_served(self):
        run = run_of("door a at 2 2 then d. desk d hands 1 takes 20 rests 5 to 9 then x. exit x.")
        self.assertEqual(self.dues(run, 1000), [2, 9, 22, 42])

    def test_who_enters_just_when_a_rest_ends(self):
        run = run_of("door a at 9 then d. desk d hands 1 takes 20 rests 5 to 9 then x. exit x.")
        self.assertEqual(self.dues(run, 1000), [9, 29])

    def test_a_change_made_amid(self):
        run = run_of("pool p holds 1. door a at 3 then x. exit x.")
        run.go(10)
        self.assertIsNone(run.due())
        run.change(("holds", "p", 1))
        self.assertEqual(run.due(), 10)
        run.go(10)
        self.assertEqual(run.due(), 10)
        run.go(12)
        self.assertIsNone(run.due())
        self.assertEqual(run.looked(), [3, 10])

    def test_a_change_made_amid_at_a_turn_that_is_due_anyway(self):
        run = run_of("pool p holds 1. door a at 3 then x. exit x.")
        run.go(3)
        run.change(("holds", "p", 1))
        run.go(5)
        self.assertEqual(run.looked(), [3])

    def test_asking_changes_nothing(self):
        run = run_of("door a at 3 then x. exit x.")
        for _ in range(3):
            self.assertEqual((run.due(), run.turn(), run.looked(), run.book()), (3, 0, [], []))


class GoTest(unittest.TestCase):
    TEXT = "door a at 0 3 7 then w. way w takes 2 then x. exit x."

    def test_turn(self):
        run = run_of(self.TEXT)
        self.assertEqual(run.turn(), 0)
        for turns, wanted in ((0, 0), (5, 5), (3, 5), (5, 5), (0, 5), (6, 6), (1000, 1000), (7, 1000)):
            self.assertIsNone(run.go(turns))
            self.assertEqual(run.turn(), wanted)

    def test_a_lesser_turn_does_nothing(self):
        run = run_of(self.TEXT)
        run.go(6)
        before = (run.book(), run.looked(), run.due())
        for turns in (0, 3, 5, 6):
            run.go(turns)
            self.assertEqual((run.book(), run.looked(), run.due()), before)

    def test_all_turns_below(self):
        run = run_of(self.TEXT)
        run.go(3)
        self.assertEqual(run.book(), [(0, 0, "comes", "a"), (0, 0, "enters", "w"), (2, 0, "enters", "x")])
        run.go(4)
        self.assertEqual(run.book()[3:], [(3, 1, "comes", "a"), (3, 1, "enters", "w")])

    def test_in_one_go_and_in_pieces(self):
        whole = run_of(self.TEXT)
        whole.go(20)
        for pieces in (range(21), (5, 20), (1, 2, 19, 20), (7, 8, 20)):
            run = run_of(self.TEXT)
            for turns in pieces:
                run.go(turns)
            self.assertEqual((run.book(), run.looked(), run.turn()), (whole.book(), whole.looked(), 20))

    def test_somewhat_beyond_1000(self):
        run = run_of("door a at 900 then w. way w takes 99 then v. way v takes 3 then x. exit x.")
        run.go(1003)
        self.assertEqual((run.turn(), run.looked()), (1003, [900, 999, 1002]))


class AgainstPlainStepsTest(unittest.TestCase):
    def test_random_halls_in_pieces(self):
        for seed in range(120):
            dice = random.Random(seed)
            hall = some_hall(dice)
            changes = some_changes(dice, hall)
            plain, run = Plain(hall, changes), Run(hall, changes)
            while run.turn() < 300:
                run.go(run.turn() + dice.choice((1, 1, 2, 10, 60)))
                while plain.turn() < run.turn():
                    plain.step()
                self.assertEqual(run.book(), plain.book(), (hall, changes))
                self.assertEqual(stand(hall, run.floor()), stand(hall, plain.floor()), (hall, changes))
            whole = Run(hall, changes)
            whole.go(run.turn())
            self.assertEqual((whole.book(), whole.looked()), (run.book(), run.looked()))

    def test_due_and_looked_at_each_turn(self):
        for seed in range(30):
            dice = random.Random(1000 + seed)
            hall = some_hall(dice)
            changes = some_changes(dice, hall)
            model, run = Model(hall, changes), Run(hall, changes)
            looked = []
            for turn in range(130):
                if dice.random() < 0.1 and some_change(dice, hall) is not None:
                    change = some_change(dice, hall)
                    model.change_amid(change)
                    run.change(change)
                due = model.due() if dice.random() < 0.2 else None
                if due is not None:
                    self.assertEqual(run.due(), due, (hall, changes))
                if model.is_due(turn):
                    looked.append(turn)
                    self.assertEqual(run.due(), turn)
                entries = model.step()
                self.assertTrue(entries == [] or looked[-1] == turn)
                run.go(turn + 1)
                self.assertEqual(run.looked(), looked, (hall, changes))
            self.assertEqual(run.book(), model.book)

    def test_a_whole_run(self):
        for seed in range(6):
            dice = random.Random(2000 + seed)
            hall = some_hall(dice)
            changes = some_changes(dice, hall, 999)
            plain, run = Plain(hall, changes), Run(hall, changes)
            for _ in range(1000):
                plain.step()
            run.go(1000)
            self.assertEqual(run.book(), plain.book())
            self.assertEqual(run.turn(), 1000)
            self.assertEqual(stand(hall, run.floor()), stand(hall, plain.floor()))


class ChangesAmidTest(unittest.TestCase):
    TEXT = """
    pool p holds 1. door a at 0 0 0 then l.
    lend l of p then w. way w takes 50 then g. give g of p then x. exit x.
    """

    def test_made_at_once(self):
        run = run_of(self.TEXT)
        run.go(5)
        self.assertIsNone(run.change(("holds", "p", 1)))
        self.assertEqual(run.floor().left("p"), 1)
        self.assertEqual(run.turn(), 5)
        self.assertEqual(run.floor().at("w"), [0])
        run.go(6)
        self.assertEqual(run.floor().at("w"), [0, 1])
        self.assertEqual(run.book()[-1], (5, 1, "enters", "w"))

    def test_as_one_told_for_the_next_turn(self):
        for turn in (0, 1, 5, 50):
            amid, told = run_of(self.TEXT), run_of(self.TEXT, [(turn, ("holds", "p", 1))])
            amid.go(turn)
            amid.change(("holds", "p", 1))
            amid.go(300)
            told.go(300)
            self.assertEqual((amid.book(), amid.looked()), (told.book(), told.looked()))

    def test_ahead_of_those_told_for_the_turn(self):
        text = "door a at 3 then d. desk d hands 1 takes 5 then x. exit x."
        run = run_of(text, [(3, ("takes", "d", (8,)))])
        run.go(3)
        run.change(("takes", "d", (2,)))
        run.go(4)
        self.assertEqual(run.floor().where(0), ("d", 3, 11))

    def test_several_amid_in_order(self):
        text = "door a at 3 then d. desk d hands 1 takes 5 then x. exit x."
        run = run_of(text)
        run.change(("takes", "d", (2,)))
        run.change(("takes", "d", (7,)))
        run.go(4)
        self.assertEqual(run.floor().where(0), ("d", 3, 10))
        self.assertEqual(run.looked(), [0, 3])

    def test_changes_that_are_none_change_nothing(self):
        run = run_of(self.TEXT)
        run.go(5)
        before = (run.book(), run.looked(), run.due(), run.turn(), stand(hall_of(self.TEXT), run.floor()))
        for change in (None, 5, "", (), [], ("holds", "x", 1), ("holds", "p", 0), ("holds", "p", 21), ["holds", "p", 1],
                       ("holds", "p", True), ("hands", "p", 1), (5, ("holds", "p", 1)), [(5, ("holds", "p", 1))]):
            with self.assertRaises(BadChange):
                run.change(change)
            self.assertEqual(
                (run.book(), run.looked(), run.due(), run.turn(), stand(hall_of(self.TEXT), run.floor())), before)

    def test_a_rule_changed_twice(self):
        text = "door a at 1 then g. gate g opens 99 for 1 then x. exit x."
        run = run_of(text)
        run.go(2)
        run.change(("opens", "g", 50, 1))
        run.go(10)
        self.assertEqual(run.due(), 50)
        run.change(("opens", "g", 20, 1))
        self.assertEqual(run.due(), 10)
        run.go(11)
        self.assertEqual(run.due(), 20)
        run.go(100)
        self.assertEqual(run.looked(), [1, 2, 10, 20])

    def test_random_changes_amid(self):
        for seed in range(40):
            dice = random.Random(3000 + seed)
            hall = some_hall(dice)
            changes = some_changes(dice, hall)
            model, run = Model(hall, changes), Run(hall, changes)
            while run.turn() < 200:
                for _ in range(dice.choice((0, 1, 2))):
                    change = some_change(dice, hall)
                    if change is not None:
                        model.change_amid(change)
                        run.change(change)
                run.go(run.turn() + dice.randint(1, 30))
                while model.turn < run.turn():
                    model.step()
                self.assertEqual(run.book(), model.book, (hall, changes))


class RefusalsTest(unittest.TestCase):
    def test_halls_that_are_none(self):
        for text, kind in BAD_HALLS:
            with self.assertRaises(kind):
                run_of(text)
            with self.assertRaises(kind):
                run_of(text, [(0, ("hands", "nowhere", 1))])
            with self.assertRaises(kind):
                run_of(text, 5)

    def test_changes_that_are_none(self):
        for changes in BAD_CHANGES:
            with self.assertRaises(BadChange):
                run_of("door a at 0 then d. desk d hands 1 takes 5 then x. exit x.", changes)


class OwnTest(unittest.TestCase):
    TEXT = "pool p holds 1. door a at 0 2 then l. lend l of p then w. way w takes 9 then g. give g of p then x. exit x."

    def test_no_changes(self):
        books = []
        for run in (run_of(self.TEXT), run_of(self.TEXT, None), run_of(self.TEXT, []),
                    Run(hall=hall_of(self.TEXT), changes=None)):
            run.go(40)
            books.append(run.book())
        self.assertEqual(books, books[:1] * 4)

    def test_what_is_changed_behind_changes_nothing(self):
        hall, changes = hall_of(self.TEXT), [(2, ("holds", "p", 1))]
        run, other = Run(hall, changes), run_of(self.TEXT, [(2, ("holds", "p", 1))])
        hall.clear()
        changes[0] = (2, ("holds", "p", 20))
        changes.append((3, ("holds", "p", 20)))
        run.go(40)
        other.go(40)
        self.assertEqual((run.book(), run.looked()), (other.book(), other.looked()))
        self.assertEqual(run.floor().left("p"), other.floor().left("p"))
        run.change(("holds", "p", 1))

    def test_nothing_that_is_handed_in_is_changed(self):
        hall, changes = hall_of(self.TEXT), [(2, ("holds", "p", 1))]
        run = Run(hall, changes)
        run.go(5)
        run.change(("holds", "p", 5))
        run.go(40)
        self.assertEqual((hall, changes), (hall_of(self.TEXT), [(2, ("holds", "p", 1))]))

    def test_told_lists_are_the_askers_own(self):
        run = run_of(self.TEXT)
        run.go(3)
        book, looked = run.book(), run.looked()
        kept = (list(book), list(looked))
        run.go(40)
        self.assertEqual((book, looked), kept)
        book.clear()
        looked.append(77)
        run.go(41)
        self.assertEqual(run.book()[:len(kept[0])], kept[0])
        self.assertNotIn(77, run.looked())

    def test_the_floor(self):
        run = run_of(self.TEXT)
        self.assertIsInstance(run.floor(), Floor)
        run.go(1)
        self.assertEqual(run.floor().where(0), ("w", 0, None))

    def test_two_runs_by_turns(self):
        for seed in range(20):
            dice = random.Random(4000 + seed)
            hall = some_hall(dice)
            one_changes, other_changes = some_changes(dice, hall), some_changes(dice, hall)
            alone = [Run(hall, one_changes), Run(hall, other_changes)]
            beside = [Run(hall, one_changes), Run(hall, other_changes)]
            for run in alone:
                run.go(150)
            for turns in range(0, 151, 10):
                for run in beside:
                    run.go(turns)
            for run, other in zip(alone, beside):
                self.assertEqual((run.book(), run.looked()), (other.book(), other.looked()))


class TextsTest(unittest.TestCase):
    TEXT = """
    pool cart holds 2. pool key holds 1.
    door main rank 1 draws 17 upto 18 gaps 0 to 4 from 1 then hall.
    door side at 0 0 6 6 30 then hall.
    fork hall by least then till, self, l.
    desk till hands 2 takes 3 5 ranked rests 10 to 15, 12 to 20 then around.
    way self takes 4 then around.
    lend l of cart then o. gate o opens 7 for 2 then m. lend m of key then walk. way walk takes 2 then n.
    give n of key then back. give back of cart then around.
    fork around by number then out, b, out. gate b below 3 at hall then again. way again takes 5 then hall.
    exit out.
    """

    def test_one_and_the_same_book(self):
        changes = [(5, ("hands", "till", 1)), (9, ("by", "hall", "turns")), (30, ("opens", "o", 3, 1))]
        plain, run = Plain(hall_of(self.TEXT), changes), run_of(self.TEXT, changes)
        model = Model(hall_of(self.TEXT), changes)
        for _ in range(400):
            plain.step()
            model.step()
        run.go(400)
        self.assertEqual(plain.book(), model.book)
        self.assertEqual(run.book(), model.book)
        self.assertGreater(len(model.book), 200)
        self.assertLess(len(run.looked()), 400)


if __name__ == "__main__":
    unittest.main()
