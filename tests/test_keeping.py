import random
import unittest

from hallclock.errors import BadChange, BadKept
from hallclock.events import Run
from hallclock.keeping import kept, woken
from hallclock.reading import hall_of
from tests.halls import some_change, some_changes, some_hall
from tests.test_events import stand
from tests.test_plain import BAD_HALLS

TEXT = """
pool key holds 3. pool cart holds 2.
door a rank 4 at 0 0 0 then f. door b at 1 then l. door c at 1 then g.
fork f by turns then d, e. fork h by least then x, x.
desk d hands 1 takes 5 6 then x. desk e hands 2 takes 7 then h.
lend l of cart then m. lend m of key then w. way w takes 4 then n. give n of cart then o. give o of key then x.
gate g opens 9 for 2 then k. gate k below 3 at k then x.
exit x.
"""
# Behind turn 3: numbers 0 and 2 stand at d, 0 is served till 5; 1 is served at e till 7; 3 is on its way with both
# things, 4 came by the gate at once.
AT_3 = """turn 3
fork f turns 3
fork h least 0
desk d 1 1 5 6
desk e 2 1 7
gate g 9 2
gate k 3
pool key 2
pool cart 1
v 0 4 d 0 5 0
v 1 4 e 0 7 0
v 2 4 d 0 - 1
v 3 0 w 1 - 0 key cart
v 4 0 x 1 - 0"""


def run_at(turn, changes=None, text=TEXT):
    run = Run(hall_of(text), changes)
    run.go(turn)
    return run


def put_otherwise(line, new):
    """The text with one of its lines put otherwise."""
    assert AT_3.count(line) == 1
    return AT_3.replace(line, new)


class KeptTest(unittest.TestCase):
    def test_behind_several_stops(self):
        self.assertEqual(kept(run_at(0)), "\n".join([
            "turn 0", "fork f turns 0", "fork h least 0", "desk d 1 0 5 6", "desk e 2 0 7", "gate g 9 2", "gate k 3",
            "pool key 3", "pool cart 2",
        ]))
        self.assertEqual(kept(run_at(3)), AT_3)
        # Nothing was due in turns 2 to 4.
        for turn in (2, 4, 5):
            self.assertEqual(kept(run_at(turn)), AT_3.replace("turn 3", f"turn {turn}"))
        self.assertEqual(kept(run_at(6)), "\n".join([
            "turn 6", "fork f turns 3", "fork h least 0", "desk d 1 2 5 6", "desk e 2 1 7", "gate g 9 2", "gate k 3",
            "pool key 3", "pool cart 2", "v 0 4 x 5 - 1", "v 1 4 e 0 7 0", "v 2 4 d 0 11 0", "v 3 0 x 5 - 2",
            "v 4 0 x 1 - 0",
        ]))
        self.assertTrue(kept(run_at(1000)).startswith("turn 1000\nfork f turns 3\nfork h least 1\n"))

    def test_a_change_amid(self):
        run = run_at(3)
        run.change(("by", "f", "number"))
        run.change(("takes", "d", (1, 2, 3, 4)))
        run.change(("hands", "e", 9))
        run.change(("opens", "g", 8, 1))
        run.change(("below", "k", 60))
        run.change(("holds", "key", 20))
        text = AT_3
        for old, new in (
            ("turn 3", "turn 3 changed"), ("f turns 3", "f number 3"), ("d 1 1 5 6", "d 1 1 1 2 3 4"),
            ("e 2 1 7", "e 9 1 7"), ("g 9 2", "g 8 1"), ("k 3", "k 60"), ("key 2", "key 22"),
        ):
            text = text.replace(old, new)
        self.assertEqual(kept(run), text)
        run.go(3)
        self.assertEqual(kept(run), text)
        run.go(4)
        self.assertEqual(kept(run), text.replace("turn 3 changed", "turn 4"))

    def test_told_changes_are_none_made_amid(self):
        run = run_at(3, [(2, ("holds", "key", 1)), (3, ("holds", "key", 1))])
        self.assertEqual(kept(run), AT_3.replace("key 2", "key 3"))
        run.go(4)
        self.assertEqual(kept(run), AT_3.replace("key 2", "key 4").replace("turn 3", "turn 4"))

    def test_refused_changes_leave_no_trace(self):
        run = run_at(3)
        with self.assertRaises(BadChange):
            run.change(("holds", "key", 21))
        self.assertEqual(kept(run), AT_3)

    def test_keeping_changes_nothing(self):
        run, other = run_at(3), run_at(3)
        kept(run)
        self.assertEqual((run.book(), run.looked(), run.due(), run.turn()),
                         (other.book(), other.looked(), other.due(), other.turn()))
        run.go(50)
        other.go(50)
        self.assertEqual((run.book(), kept(run)), (other.book(), kept(other)))

    def test_a_hall_without_any_of_these(self):
        self.assertEqual(kept(run_at(0, text="door a at 0 then x. exit x.")), "turn 0")
        self.assertEqual(kept(run_at(1, text="door a at 0 then x. exit x.")), "turn 1\nv 0 0 x 0 - 0")

    def test_pools_in_the_order_of_the_hall(self):
        self.assertIn("v 3 0 w 1 - 0 key cart", kept(run_at(3)))
        self.assertIn("v 3 0 w 1 - 0 cart key", kept(run_at(3, text=TEXT.replace(
            "pool key holds 3. pool cart holds 2.", "pool cart holds 2. pool key holds 3."))))


class WokenTest(unittest.TestCase):
    def test_goes_on_as_the_one_that_was_kept(self):
        whole = run_at(60)
        for turn in range(0, 40):
            run = woken(hall_of(TEXT), kept(run_at(turn)))
            self.assertIsInstance(run, Run)
            self.assertEqual((run.turn(), run.book(), run.looked()), (turn, [], []))
            self.assertEqual(run.due(), run_at(turn).due())
            self.assertEqual(stand(hall_of(TEXT), run.floor()), stand(hall_of(TEXT), run_at(turn).floor()))
            run.go(60)
            self.assertEqual(run.book(), [entry for entry in whole.book() if entry[0] >= turn])
            self.assertEqual(run.looked(), [looked for looked in whole.looked() if looked >= turn])
            self.assertEqual(kept(run), kept(whole))

    def test_kept_again_at_once(self):
        for text in (AT_3, AT_3.replace("turn 3", "turn 3 changed")):
            self.assertEqual(kept(woken(hall_of(TEXT), text)), text)

    def test_a_change_amid(self):
        run = run_at(8)
        run.change(("holds", "key", 1))
        again = woken(hall_of(TEXT), kept(run))
        self.assertEqual((run.due(), again.due()), (8, 8))
        run.go(60)
        again.go(60)
        self.assertEqual(again.looked(), [turn for turn in run.looked() if turn >= 8])
        self.assertIn(8, again.looked())
        self.assertEqual(again.floor().left("key"), 4)

    def test_changes_handed_in_anew(self):
        changes = [
            (2, ("holds", "key", 1)), (6, ("takes", "d", (9,))), (6, ("hands", "d", 3)), (9, ("holds", "key", 5)),
        ]
        for turn in (0, 2, 3, 6, 7, 9, 10):
            run = run_at(turn, changes)
            text = kept(run)
            run.go(60)
            later = [pair for pair in changes if pair[0] >= turn]
            for handed in (changes, later):
                again = woken(hall_of(TEXT), text, handed)
                again.go(60)
                self.assertEqual(again.book(), [entry for entry in run.book() if entry[0] >= turn])
                self.assertEqual(again.looked(), [looked for looked in run.looked() if looked >= turn])
                self.assertEqual(kept(again), kept(run))

    def test_other_changes_behind_waking(self):
        text = kept(run_at(3, [(9, ("holds", "key", 5))]))
        run = woken(hall_of(TEXT), text, [(1, ("holds", "key", 20)), (5, ("holds", "key", 1))])
        run.go(60)
        self.assertEqual(run.floor().left("key"), 4)
        self.assertEqual(run.looked()[0], 5)
        self.assertNotIn(9, run.looked())
        for changes in (None, []):
            run = woken(hall_of(TEXT), text, changes)
            run.go(60)
            self.assertEqual(run.floor().left("key"), 3)

    def test_a_change_amid_behind_waking(self):
        run = woken(hall_of(TEXT), AT_3)
        run.change(("holds", "key", 2))
        self.assertEqual(kept(run), AT_3.replace("turn 3", "turn 3 changed").replace("key 2", "key 4"))
        with self.assertRaises(BadChange):
            run.change(("holds", "key", 0))

    def test_two_runs_woken_from_one_text(self):
        one, other = woken(hall_of(TEXT), AT_3), woken(hall_of(TEXT), AT_3)
        one.change(("hands", "d", 9))
        one.go(40)
        self.assertEqual(kept(other), AT_3)
        other.go(40)
        alone = woken(hall_of(TEXT), AT_3)
        alone.go(40)
        self.assertEqual((other.book(), kept(other)), (alone.book(), kept(alone)))
        self.assertNotEqual(one.book(), other.book())

    def test_nothing_that_is_handed_in_is_changed(self):
        hall, changes = hall_of(TEXT), [(5, ("holds", "key", 1))]
        run = woken(hall, AT_3, changes)
        run.go(40)
        self.assertEqual((hall, changes), (hall_of(TEXT), [(5, ("holds", "key", 1))]))
        run = woken(hall, AT_3, changes)
        hall.clear()
        changes.clear()
        run.go(40)
        run.change(("holds", "key", 1))
        self.assertEqual(run.floor().left("key"), 5)

    def test_a_run_somewhat_beyond_1000(self):
        run = run_at(1003)
        again = woken(hall_of(TEXT), kept(run))
        self.assertEqual((again.turn(), kept(again)), (1003, kept(run)))

    def test_random_halls(self):
        for seed in range(60):
            dice = random.Random(7000 + seed)
            hall = some_hall(dice)
            changes = some_changes(dice, hall)
            whole, run = Run(hall, changes), Run(hall, changes)
            book, looked = [], []
            while run.turn() < 200:
                turn = run.turn() + dice.choice((1, 3, 20, 60))
                whole.go(turn)
                run.go(turn)
                if dice.random() < 0.3 and some_change(dice, hall) is not None:
                    change = some_change(dice, hall)
                    whole.change(change)
                    run.change(change)
                text = kept(run)
                self.assertEqual(text, kept(whole))
                self.assertTrue(text.isascii() and "  " not in text and not text.endswith((" ", "\n")))
                book, looked = book + run.book(), looked + run.looked()
                run = woken(hall, text, changes)
                self.assertEqual(kept(run), text)
                self.assertEqual(run.due(), whole.due(), (hall, changes, text))
                self.assertEqual(stand(hall, run.floor()), stand(hall, whole.floor()))
            self.assertEqual((book, looked), (whole.book(), whole.looked()))


class CountsTest(unittest.TestCase):
    def test_counts_are_let_by(self):
        for many in (0, 1, 2, 4, 7, 1000, 99999, 999999998, 999999999):
            text = put_otherwise("fork f turns 3", f"fork f turns {many}")
            text = text.replace("fork h least 0", f"fork h least {many}")
            text = text.replace("desk d 1 1 5 6", f"desk d 1 {many} 5 6").replace("desk e 2 1 7", f"desk e 2 {many} 7")
            run = woken(hall_of(TEXT), text)
            self.assertEqual(kept(run), text)
            run.go(6)
            # The next service at d is the one behind so many.
            self.assertEqual(run.floor().where(2), ("d", 0, 5 + (5, 6)[many % 2]))

    def test_the_next_then_is_the_one_behind_so_many(self):
        hall = hall_of("door a at 5 then f. fork f by turns then x, y, z. exit x. exit y. exit z.")
        for many in (0, 1, 2, 3, 999999999):
            run = woken(hall, f"turn 2\nfork f turns {many}")
            run.go(6)
            self.assertEqual(run.floor().where(0)[0], "xyz"[many % 3])

    def test_ten_figures_are_none(self):
        for line, new in (("fork f turns 3", "fork f turns 1000000000"), ("desk d 1 1 5 6", "desk d 1 1000000000 5 6")):
            with self.assertRaises(BadKept):
                woken(hall_of(TEXT), put_otherwise(line, new))


# Each row: a line of the text, and what it may not be put to.
WRONG = (
    ("turn 3", (
        "turn", "turn -3", "turn 03", "turn x", "turn 3 ", " turn 3", "turn  3", "turn 3 change",
        "turn 3 changed changed", "turn 3 changed ", "turn changed", "Turn 3", "turns 3", "3", "", "turn 3.",
        "turn 1000000000", "turn 3\n", "\nturn 3", "turn\n3", "turn\t3", "turn 3 4", "turn 3 changed 4", "turn -",
        "turn +3", "turn 3_0", "turn 3.0", "turn 00",
    )),
    ("fork f turns 3", (
        "", "fork f turns", "fork f 3", "fork turns 3", "fork f turns 3 3", "fork f most 3", "fork h turns 3",
        "fork g turns 3", "fork f turns 03", "fork f turns -", "fork f turns x", "fork f Turns 3", "gate f turns 3",
        "fork f turns  3", "fork f turns 3 ", "fork f turns 3\nfork f turns 3", "fork h least 3", "fork f turns -1",
        "fork f turn 3",
    )),
    ("fork h least 0", ("fork h least 00", "fork h", "fork f least 0", "desk h least 0", "fork h least 0\n")),
    ("desk d 1 1 5 6", (
        "", "desk d", "desk d 1", "desk d 1 1", "desk d 0 1 5 6", "desk d 10 1 5 6", "desk d 1 1 0", "desk d 1 1 100",
        "desk d 1 1 5 6 7 8 9", "desk d 1 1 5 x", "desk d 01 1 5 6", "desk d 1 01 5 6", "desk d 1 1 05 6",
        "desk d 1 - 5 6", "desk d 1 1 5, 6", "desk e 1 1 5 6", "desk x 1 1 5 6", "desk d x 1 5 6", "desk d 1 x 5 6",
        "desk d 1 1 5  6", "desk d 1 1 5 6 ", "fork d 1 1 5 6", "desk nowhere 1 1 5 6", "desk d 1 1 5 0",
        "desk d 1 1 5 100",
    )),
    ("desk e 2 1 7", ("desk e 2 1", "desk d 2 1 7", "desk e 2 1 7\ndesk e 2 1 7", "")),
    ("gate g 9 2", (
        "", "gate g", "gate g 9", "gate g 9 2 1", "gate g 9 10", "gate g 9 0", "gate g 0 0", "gate g 100 2",
        "gate g 0 2", "gate g 09 2", "gate g opens 9 2", "gate k 9 2", "gate g 9 x", "gate g -9 2", "gate g 9 2 ",
        "gate x 9 2", "gate g 1 2", "pool g 9 2", "gate g 9  2",
    )),
    ("gate k 3", (
        "", "gate k", "gate k 0", "gate k 61", "gate k 3 3", "gate k 3 k", "gate k below 3", "gate g 3", "gate k 03",
        "gate k -",
    )),
    ("pool key 2", (
        "", "pool key", "pool key 2 2", "pool key x", "pool key 02", "pool key -", "pool key -1", "pool cart 2",
        "pool x 2", "door key 2", "pool key 1000000000", "pool key 2 ", "pool  key 2",
    )),
    ("pool cart 1", ("", "pool key 1", "pool cart 1\npool cart 1", "pool cart")),
    ("v 0 4 d 0 5 0", (
        "", "v", "v 0", "v 0 4", "v 0 4 d", "v 0 4 d 0", "v 0 4 d 0 5", "v 1 4 d 0 5 0", "v 5 4 d 0 5 0",
        "v 00 4 d 0 5 0", "v0 4 d 0 5 0", "u 0 4 d 0 5 0", "v 0 x d 0 5 0", "v 0 - d 0 5 0", "v 0 04 d 0 5 0",
        "v 0 10 d 0 5 0", "v 0 4 nowhere 0 5 0", "v 0 4 key 0 5 0", "v 0 4 d x 5 0", "v 0 4 d - 5 0", "v 0 4 d 00 5 0",
        "v 0 4 d 0 x 0", "v 0 4 d 0 05 0", "v 0 4 d 0 -- 0", "v 0 4 d 0 5 x", "v 0 4 d 0 5 -", "v 0 4 d 0 5 00",
        "v 0 4 d 0 5 0 x", "v 0 4 d 0 5 0 0", "v 0 4 d 0 5 0 d", "v 0 4 d 0 5 0 key key", "v 0 4 d 0 5 0 cart key",
        "v 0 4 d 0 5 0 ", "v 0 4 d 0 5  0", "v 0 4 d 0 1000000000 0", "v 0 4 d 1000000000 5 0",
        "v 0 4 d 0 5 1000000000",
        # Places that are none among those who stand there.
        "v 0 4 d 0 5 1", "v 0 4 d 0 5 2", "v 0 4 d 0 5 0\nv 0 4 d 0 5 0",
    )),
    ("v 2 4 d 0 - 1", ("v 2 4 d 0 - 0", "v 2 4 d 0 - 2", "v 2 4 d 0 5 0", "v 2 4 d 0 - 10")),
    ("v 3 0 w 1 - 0 key cart", (
        "v 3 0 w 1 - 0 cart key", "v 3 0 w 1 - 0 key key", "v 3 0 w 1 - 0 key cart x", "v 3 0 w 1 - 0 key,cart",
        "v 3 0 w 1 - 1 key cart", "v 3 0 w 1 5 0 key cart", "v 3 0 w 1 - 0  key cart", "v 3 0 w 1 - 0 key cart ",
        "v 2 0 w 1 - 0 key cart", "v 3 0 w 1 - 0 door",
    )),
    ("v 4 0 x 1 - 0", (
        "v 4 0 x 1 7 0", "v 4 0 x 1 - 0\n", "v 4 0 x 1 - 0\nx", "v 4 0 x 1 - 0\n\n", "v 4 0 x 1 - 1",
        "v 5 0 x 1 - 0", "v 4 0 key 1 - 0", "v 4 0 nowhere 1 - 0", "v 4 0 x 1 - 0\nv 5 0 x 1 - 1", "v 4 4 x 1 - 0",
    )),
)


class RefusalsTest(unittest.TestCase):
    def refused(self, text):
        with self.subTest(text=text):
            with self.assertRaises(BadKept):
                woken(hall_of(TEXT), text)

    def test_one_thing_put_otherwise(self):
        for line, others in WRONG:
            for other in others:
                self.refused(put_otherwise(line, other))

    def test_lines_left_out_or_told_twice_or_in_another_order(self):
        lines = AT_3.split("\n")
        for place in range(len(lines)):
            self.refused("\n".join(lines[:place] + lines[place + 1:]))
            self.refused("\n".join(lines[:place + 1] + lines[place:]))
            self.refused("\n".join(lines[:place]))
        for place in range(len(lines) - 1):
            swapped = lines[:place] + [lines[place + 1], lines[place]] + lines[place + 2:]
            self.refused("\n".join(swapped))

    def test_words_left_out_or_told_twice(self):
        lines = AT_3.split("\n")
        for place, line in enumerate(lines):
            parts = line.split(" ")
            for spot in range(len(parts)):
                left_out = parts[:spot] + parts[spot + 1:]
                twice = parts[:spot] + parts[spot:spot + 1] + parts[spot:]
                for changed in (left_out, twice):
                    # A desk's numbers and a visitor's pools may be more or fewer.
                    if changed[0] == "desk" and spot > 1 and 5 <= len(changed) <= 8:
                        continue
                    if changed[0] == "v" and spot > 6 and len(changed) < len(parts):
                        continue
                    self.refused("\n".join(lines[:place] + [" ".join(changed)] + lines[place + 1:]))

    def test_line_ends_around(self):
        for text in (AT_3 + "\n", "\n" + AT_3, AT_3.replace("\n", "\n\n"), AT_3.replace("\n", " "), AT_3.replace("\n",
            "\r\n"),
                     AT_3.replace(" ", "\t"), AT_3.upper(), AT_3 + " ", " " + AT_3, "", "\n", " "):
            self.refused(text)

    def test_things_that_are_no_texts(self):
        for thing in (None, 0, True, 5, [], AT_3.split("\n"), (), {}, AT_3.encode(), object(), 1.5, run_at(3)):
            self.refused(thing)

    def test_another_halls_text(self):
        self.refused(kept(run_at(3, text="door a at 0 then x. exit x.")))
        with self.assertRaises(BadKept):
            woken(hall_of("door a at 0 then x. exit x."), AT_3)
        self.refused(kept(run_at(3, text=TEXT.replace("fork h", "fork hh").replace("then h.", "then hh."))))

    def test_which_refusal_goes_ahead(self):
        for text, kind in BAD_HALLS:
            for thing in (AT_3, "", None):
                with self.assertRaises(kind):
                    woken(hall_of(text), thing)
                with self.assertRaises(kind):
                    woken(hall_of(text), thing, [(0, ("hands", "nowhere", 1))])
        for changes in (5, [5], [(0, ("hands", "nowhere", 1))], [(1000, ("hands", "d", 1))]):
            for thing in (AT_3, "", None):
                with self.assertRaises(BadChange):
                    woken(hall_of(TEXT), thing, changes)
        # Those for earlier turns are passed over, but have to be changes nevertheless.
        with self.assertRaises(BadChange):
            woken(hall_of(TEXT), AT_3, [(0, ("hands", "d", 10))])
        with self.assertRaises(BadKept):
            woken(hall_of(TEXT), "", [(0, ("hands", "d", 1))])

    def test_what_is_refused_changes_nothing(self):
        hall, changes = hall_of(TEXT), [(5, ("holds", "key", 1))]
        for text in ("", AT_3 + "\n", None):
            with self.assertRaises(BadKept):
                woken(hall, text, changes)
        self.assertEqual((hall, changes), (hall_of(TEXT), [(5, ("holds", "key", 1))]))


if __name__ == "__main__":
    unittest.main()
