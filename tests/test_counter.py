import random
import unittest

from hallclock.book import line_of
from hallclock.counter import Counter
from hallclock.errors import BadSign, BadText
from hallclock.events import Run
from hallclock.keeping import kept
from hallclock.reading import hall_of
from hallclock.reports import report
from hallclock.words import TOLD
from hallclock.writing import written
from tests.halls import some_change, some_hall
from tests.test_plain import BAD_HALLS

TEXT = """
pool cart holds 2.
door a at 0 0 4 then till. door b at 2 then l.
desk till hands 1 takes 3 then f.
fork f by turns then x, g. gate g opens 5 for 2 then h. gate h below 9 at x then x.
lend l of cart then w. way w takes 6 then k. give k of cart then x.
exit x.
"""


class CounterCase(unittest.TestCase):
    def setUp(self):
        self.counter = Counter(TEXT)

    def says(self, *rows):
        for line, wanted in rows:
            with self.subTest(line=line):
                self.assertEqual(self.counter.say(line), wanted)

    def all_of_it(self):
        counter = self.counter
        asked = ["book", "report", "left cart", "at till", "at x", "at w", "where 0", "where 1", "where 2", "where 3"]
        return [counter.say(line) for line in asked], kept(counter.current)


class LinesTest(CounterCase):
    def test_go(self):
        self.says(("go 0", ["turn 0"]), ("go 3", ["turn 3"]), ("go 2", ["turn 3"]), ("go 3", ["turn 3"]),
                  ("go 0", ["turn 3"]), ("go 1000", ["turn 1000"]), ("go 5", ["turn 1000"]))

    def test_where(self):
        self.says(("where 0", ["nobody such"]), ("go 1", ["turn 1"]), ("where 0", ["till 0"]), ("where 1", ["till 0"]),
                  ("where 2", ["nobody such"]), ("go 3", ["turn 3"]), ("where 2", ["w 2"]), ("go 4", ["turn 4"]),
                  ("where 0", ["x 3"]), ("where 3", ["nobody such"]), ("where 9999", ["nobody such"]))

    def test_at(self):
        self.says(("at till", ["nobody"]), ("at a", ["nobody"]), ("go 1", ["turn 1"]), ("at till", ["0 1"]),
                  ("at x", ["nobody"]), ("go 5", ["turn 5"]), ("at till", ["1 3"]), ("at x", ["0"]), ("at w", ["2"]),
                  ("change opens g 50 1", ["changed"]), ("go 100", ["turn 100"]), ("at x", ["0 2 3 1"]),
                  ("at till", ["nobody"]))

    def test_left(self):
        self.says(("left cart", ["2"]), ("go 3", ["turn 3"]), ("left cart", ["1"]), ("go 9", ["turn 9"]),
                  ("left cart", ["2"]))

    def test_book(self):
        self.says(("book", []), ("go 1", ["turn 1"]), ("book", [
            "0000 v00 comes a", "0000 v01 comes a", "0000 v00 enters till", "0000 v00 begins till",
            "0000 v01 enters till",
        ]))

    def test_report(self):
        self.says(("report", report(hall_of(TEXT), [], 0)), ("go 8", ["turn 8"]))
        run = Run(hall_of(TEXT))
        run.go(8)
        self.says(("report", report(hall_of(TEXT), run.book(), 8)))
        self.assertEqual(self.counter.say("report")[0], "a          3 0 0")

    def test_report_of_all_turns_done(self):
        # Nothing is due behind turn 50, but the turns are done.
        self.counter.say("go 50")
        run = Run(hall_of(TEXT))
        run.go(70)
        self.says(("go 70", ["turn 70"]), ("report", report(hall_of(TEXT), run.book(), 70)))

    def test_keep(self):
        self.says(("keep", ["turn 0", "fork f turns 0", "desk till 1 0 3", "gate g 5 2", "gate h 9", "pool cart 2"]))
        self.says(("go 3", ["turn 3"]), ("keep", [
            "turn 3", "fork f turns 0", "desk till 1 1 3", "gate g 5 2", "gate h 9", "pool cart 1", "v 0 0 till 0 3 0",
            "v 1 0 till 0 - 1", "v 2 0 w 2 - 0 cart",
        ]))

    def test_changes(self):
        self.says(
            ("change hands till 2", ["changed"]), ("change takes till 2 4", ["changed"]),
            ("change opens g 6 3", ["changed"]), ("change below h 3", ["changed"]), ("change by f least", ["changed"]),
            ("change holds cart 20", ["changed"]), ("left cart", ["22"]),
            ("keep", [
                "turn 0 changed", "fork f least 0", "desk till 2 0 2 4", "gate g 6 3", "gate h 3", "pool cart 22",
            ]),
            ("change takes till 1", ["changed"]), ("change takes till 1 2 3 99", ["changed"]),
            ("change takes till 1 2 3", ["changed"]), ("change by f number", ["changed"]),
            ("change by f turns", ["changed"]), ("change hands till 9", ["changed"]),
            ("change opens g 99 99", ["changed"]), ("change below h 60", ["changed"]),
            ("change holds cart 1", ["changed"]),
            ("keep", [
                "turn 0 changed", "fork f turns 0", "desk till 9 0 1 2 3", "gate g 99 99", "gate h 60", "pool cart 23",
            ]),
            ("go 1", ["turn 1"]), ("where 1", ["till 0"]),
        )
        self.assertEqual(self.counter.say("keep")[-2:], ["v 0 0 till 0 1 0", "v 1 0 till 0 2 1"])

    def test_a_change_is_made_ahead_of_the_next_turn(self):
        self.says(("go 1", ["turn 1"]), ("change hands till 2", ["changed"]), ("at till", ["0 1"]))
        self.says(("go 2", ["turn 2"]))
        self.assertEqual(self.counter.say("book")[-1], "0001 v01 begins till")


class WordsTest(CounterCase):
    def test_words_parted_otherwise(self):
        self.says(("go3", ["turn 3"]), ("  go\n5  \n", ["turn 5"]), ("go\n\n6", ["turn 6"]), ("where0", ["x 3"]),
                  ("change\nhands till2", ["changed"]),
                  ("change takes till 2\n3 4", ["changed"]), (" left   cart ", ["1"]))
        self.assertIn("desk till 2 2 2 3 4", self.counter.say("keep"))
        self.assertEqual(self.counter.say("\nbook "), self.counter.say("book"))

    def test_what_is_no_line(self):
        for line in (
            "", " ", "\n", "go", "go x", "go 3 4", "go.", "go 3.", "go, 3", "go -3", "go 03", "go 12345", "Go 3",
            "goto 3", "gox", "3 go", "3", "till", ".", ",", "where", "where x", "where 0 0", "where 00", "where till",
            "at", "at 3", "at till x", "at till.", "at then", "at at", "at change", "at abcdefghi", "left", "left 3",
            "left cart cart", "left of", "left cart.", "book 3", "book.", "book book", "report x", "report 3",
            "report.", "keep 3", "keep keep", "wake 3", "wake wake", "wake.", "change", "change hands",
            "change hands till", "change hands till 2 3", "change hands till two", "change hands 2 till",
            "change hands till 2.", "change takes till", "change takes till 1 2 3 4 5", "change takes till 1, 2",
            "change takes till 1 2,", "change opens g", "change opens g 5", "change opens g 5 2 1",
            "change opens g 5, 2", "change opens g 5 for 2", "change below h", "change below h 3 4",
            "change below h 3 at x", "change by f", "change by f most", "change by f 3", "change by f turns turns",
            "change by f till", "change holds cart", "change holds cart 2 3", "change holds cart x",
            "change rests till 3 4", "change ranked till", "change way w 3", "change till hands 2", "hands till 2",
            "change change hands till 2", "change hands hands 2", "change hands then 2", "change rank a 2", "go 3\tgo",
            "go 3;", "GO 3", "go#3", "step", "help", "turn", "change hands till 02", "go 1 000", "x" * 7000,
            "go 3" + " " * 6000,
        ):
            self.says((line, ["no line"]))

    def test_what_is_no_text(self):
        for thing in (None, 0, 5, True, [], ["go 3"], ("go", 3), {}, b"go 3", object(), 1.5):
            self.says((thing, ["no line"]))

    def test_a_long_line(self):
        self.says(("go 3" + " " * 5996, ["turn 3"]), ("go 4" + " " * 5997, ["no line"]))

    def test_names_like_the_lines_own_words(self):
        self.counter = Counter(
            "pool left holds 3. pool book holds 1. door go at 0 then where. way where takes 2 then keep."
            "desk keep hands 1 takes 2 then wake. fork wake by turns then report, nobody."
            "gate report opens 2 for 1 then v. gate nobody below 2 at v then v. exit v."
        )
        self.says(
            ("at go", ["nobody"]), ("left left", ["3"]), ("left book", ["1"]), ("at left", ["no such name"]),
            ("go 1", ["turn 1"]), ("at where", ["0"]), ("where 0", ["where 0"]), ("at keep", ["nobody"]),
            ("change hands keep 2", ["changed"]), ("change by wake least", ["changed"]),
            ("change opens report 3 1", ["changed"]), ("change below nobody 3", ["changed"]),
            ("change holds left 1", ["changed"]), ("left left", ["4"]), ("go 9", ["turn 9"]), ("at v", ["0"]),
            ("at report", ["nobody"]), ("left wake", ["no such name"]), ("at book", ["no such name"]),
            ("at nobody", ["nobody"]),
        )


class KeepAndWakeTest(CounterCase):
    def test_nothing_kept(self):
        self.says(("wake", ["nothing kept"]), ("go 3", ["turn 3"]), ("wake", ["nothing kept"]))

    def test_woken(self):
        self.counter.say("go 3")
        self.counter.say("keep")
        before = self.all_of_it()
        self.counter.say("go 40")
        self.counter.say("change hands till 9")
        behind = self.counter.say("book")
        self.says(("wake", ["turn 3"]))
        # all_of_it asks for nothing that is kept, so the text is the one that was kept ahead.
        self.assertEqual(self.all_of_it(), before)
        self.says(("go 40", ["turn 40"]), ("book", behind))

    def test_woken_twice(self):
        self.counter.say("go 3")
        self.counter.say("keep")
        before = self.all_of_it()
        for turns in (10, 50, 4):
            self.counter.say(f"go {turns}")
            self.says(("wake", ["turn 3"]))
            self.assertEqual(self.all_of_it(), before)

    def test_the_text_that_was_told_last(self):
        self.says(("go 3", ["turn 3"]))
        self.counter.say("keep")
        self.says(("go 5", ["turn 5"]))
        self.counter.say("keep")
        book = self.counter.say("book")
        self.says(("go 30", ["turn 30"]), ("wake", ["turn 5"]), ("book", book), ("wake", ["turn 5"]), ("book", book))

    def test_kept_behind_waking(self):
        self.counter.say("go 3")
        self.counter.say("keep")
        self.counter.say("wake")
        self.counter.say("go 5")
        self.counter.say("keep")
        book = self.counter.say("book")
        whole = Run(hall_of(TEXT))
        whole.go(5)
        self.assertEqual(book, [line_of(entry) for entry in whole.book()])
        self.says(("go 9", ["turn 9"]), ("wake", ["turn 5"]), ("book", book), ("go 9", ["turn 9"]))
        whole.go(9)
        self.says(("book", [line_of(entry) for entry in whole.book()]),
                  ("report", report(hall_of(TEXT), whole.book(), 9)))

    def test_woken_backwards(self):
        self.counter.say("keep")
        self.says(("go 30", ["turn 30"]), ("wake", ["turn 0"]), ("book", []), ("report", report(hall_of(TEXT), [], 0)),
                  ("where 0", ["nobody such"]))

    def test_a_change_amid_is_kept(self):
        self.counter.say("go 20")
        self.counter.say("change hands till 3")
        text = self.counter.say("keep")
        self.assertEqual(text[0], "turn 20 changed")
        self.says(("go 21", ["turn 21"]), ("wake", ["turn 20"]), ("keep", text))

    def test_changes_are_kept(self):
        self.says(("change takes till 9", ["changed"]), ("go 1", ["turn 1"]))
        self.counter.say("keep")
        self.says(("change takes till 1", ["changed"]), ("wake", ["turn 1"]), ("go 9", ["turn 9"]),
                  ("where 0", ["till 0"]), ("go 10", ["turn 10"]), ("where 0", ["x 9"]), ("go 18", ["turn 18"]),
                  ("where 1", ["till 0"]), ("go 19", ["turn 19"]), ("where 1", ["g 18"]))

    def test_random_halls(self):
        for seed in range(25):
            dice = random.Random(8000 + seed)
            hall = some_hall(dice)
            counter, run = Counter(written(hall)), Run(hall)
            stops, at = {}, 0
            for _ in range(25):
                choice = dice.random()
                if choice < 0.5:
                    turns = run.turn() + dice.randint(0, 25)
                    run.go(turns)
                    self.assertEqual(counter.say(f"go {turns}"), [f"turn {turns}"])
                elif choice < 0.6 and some_change(dice, hall) is not None:
                    change = some_change(dice, hall)
                    run.change(change)
                    parts = change[:2] + (change[2] if change[0] == "takes" else change[2:])
                    self.assertEqual(counter.say("change " + " ".join(str(part) for part in parts)), ["changed"])
                    stops.setdefault("deeds", []).append((run.turn(), change))
                elif choice < 0.8:
                    self.assertEqual(counter.say("keep"), kept(run).split("\n"))
                    stops["kept"] = (run.turn(), list(stops.get("deeds", [])))
                elif "kept" in stops:
                    at, deeds = stops["kept"]
                    self.assertEqual(counter.say("wake"), [f"turn {at}"])
                    run = Run(hall)
                    for turn, change in deeds:
                        run.go(turn)
                        run.change(change)
                    run.go(at)
                    stops["deeds"] = list(deeds)
                self.assertEqual(counter.say("book"), [line_of(entry) for entry in run.book()])
                self.assertEqual(counter.say("report"), report(hall, run.book(), run.turn()))


class RefusalsTest(CounterCase):
    def test_no_such_name(self):
        names = ("cart", "a", "b", "till", "f", "g", "h", "l", "w", "k", "x", "nowhere")
        for good, line in (
            (names[1:-1], "at {}"), (("cart",), "left {}"), (("till",), "change hands {} 2"),
            (("till",), "change takes {} 2"), (("till",), "change takes {} 2 3 4 5"), (("g",), "change opens {} 5 2"),
            (("h",), "change below {} 2"), (("f",), "change by {} least"), (("cart",), "change holds {} 2"),
        ):
            for name in names:
                answer = self.counter.say(line.format(name))
                self.assertEqual(answer == ["no such name"], name not in good, line.format(name))

    def test_bad_number(self):
        for line in (
            "go 1001", "go 9999", "change hands till 0", "change hands till 10", "change takes till 0",
            "change takes till 100", "change takes till 1 2 3 0", "change takes till 100 1", "change opens g 0 0",
            "change opens g 100 1", "change opens g 5 6", "change opens g 5 0", "change opens g 0 1",
            "change below h 0", "change below h 61", "change holds cart 0", "change holds cart 21",
            "change holds cart 9999",
        ):
            self.says((line, ["bad number"]))

    def test_go_1000_and_go_1001(self):
        self.says(("go 1001", ["bad number"]), ("where 0", ["nobody such"]), ("go 1000", ["turn 1000"]),
                  ("go 1001", ["bad number"]), ("go 1000", ["turn 1000"]))

    def test_which_is_the_first(self):
        self.says(
            ("change hands nowhere 0", ["no such name"]), ("change opens h 0 0", ["no such name"]),
            ("change below g 99", ["no such name"]), ("change holds till 0", ["no such name"]),
            ("change takes cart 100", ["no such name"]), ("change by cart most", ["no line"]),
            ("change hands nowhere 0 0", ["no line"]), ("change hands nowhere 00", ["no line"]),
            ("go 10000", ["no line"]), ("where 10000", ["no line"]), ("wake 1", ["no line"]),
            ("at nowhere nowhere", ["no line"]), ("change takes nowhere 1 2 3 4 5", ["no line"]),
            ("change hands nowhere 12345", ["no line"]),
        )

    def test_what_is_told_so_changes_nothing(self):
        lines = (
            "no", "", None, "go 1001", "where 99", "at cart", "at nowhere", "left till", "change hands till 0",
            "change hands x 1", "change takes till 1 100", "change opens g 5 6", "change opens h 5 5",
            "change below g 1", "change by f most", "change holds cart 21", "wake",
        )
        for turns in (0, 3, 30):
            self.counter.say(f"go {turns}")
            before = self.all_of_it()
            for line in lines:
                self.counter.say(line)
                self.assertEqual(self.all_of_it(), before, line)

    def test_refused_lines_leave_what_was_kept(self):
        self.counter.say("go 3")
        self.counter.say("keep")
        self.counter.say("go 9")
        for line in ("keep 3", "keep.", "keep keep", "wake 1"):
            self.says((line, ["no line"]))
        self.says(("wake", ["turn 3"]))

    def test_texts_that_are_none(self):
        for thing in (None, 5, [], "exit X."):
            with self.assertRaises(BadSign):
                Counter(thing)
        for text, spot in (("exit", 1), ("till", 0), ("exit out. exit then.", 4), ("pool p holds 0", 4)):
            with self.assertRaises(BadText) as caught:
                Counter(text)
            self.assertEqual(caught.exception.spot, spot)
        for text, kind in BAD_HALLS:
            with self.assertRaises(kind):
                Counter(text)
        with self.assertRaises(BadText):
            Counter("exit x. exit x. exit")


class OwnTest(CounterCase):
    def test_told_lists_are_the_askers_own(self):
        self.counter.say("go 5")
        for line in ("go 5", "book", "report", "keep", "at till", "where 0", "left cart", "wake", "change hands x 1",
            "no line"):
            told = self.counter.say(line)
            self.assertIs(type(told), list)
            again = list(told)
            told.append("more")
            self.assertEqual(self.counter.say(line), again)
            told.clear()
            self.assertEqual(self.counter.say(line), again)

    def test_two_counters(self):
        one, other = Counter(TEXT), Counter(TEXT)
        one.say("go 30")
        one.say("change hands till 5")
        one.say("keep")
        self.assertEqual(other.say("wake"), ["nothing kept"])
        self.assertEqual(other.say("book"), [])
        self.assertEqual(other.say("keep")[0], "turn 0")
        self.assertEqual(one.say("keep")[0], "turn 30 changed")

    def test_told_words_are_no_names(self):
        for word in TOLD:
            self.says((f"at {word}", ["no line"]), (f"left {word}", ["no line"]))
            self.says((f"change holds {word} 1", ["no line"]))


if __name__ == "__main__":
    unittest.main()
