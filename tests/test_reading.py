import random
import unittest

from hallclock.errors import BadSign, BadText
from hallclock.reading import hall_of, read
from hallclock.stations import Station
from hallclock.words import TOLD, is_name, words
from hallclock.writing import written

NAME, NUMBER = "NAME", "NUMBER"


def forms():
    """Every form of a statement, written out word by word: an own telling of point 3 to hold the reading against."""
    then = ("then", NAME, ".")
    yield ("pool", NAME, "holds", NUMBER, ".")
    for rank in ((), ("rank", NUMBER)):
        for many in range(1, 13):
            yield ("door", NAME) + rank + ("at",) + (NUMBER,) * many + then
        draws = ("draws", NUMBER, "upto", NUMBER, "gaps", NUMBER, "to", NUMBER, "from", NUMBER)
        yield ("door", NAME) + rank + draws + then
    yield ("way", NAME, "takes", NUMBER) + then
    for many in range(1, 5):
        for ranked in ((), ("ranked",)):
            for rests in range(4):
                row = ("rests",) + (NUMBER, "to", NUMBER, ",") * rests
                row = row[:-1] if rests > 0 else ()
                yield ("desk", NAME, "hands", NUMBER, "takes") + (NUMBER,) * many + ranked + row + then
    yield ("gate", NAME, "opens", NUMBER, "for", NUMBER) + then
    yield ("gate", NAME, "below", NUMBER, "at", NAME) + then
    for rule in ("turns", "number", "least"):
        for many in range(2, 5):
            yield ("fork", NAME, "by", rule, "then", NAME) + (",", NAME) * (many - 1) + (".",)
    yield ("lend", NAME, "of", NAME) + then
    yield ("give", NAME, "of", NAME) + then
    yield ("exit", NAME, ".")


FORMS = tuple(forms())


def fits(word, wanted):
    if wanted == NAME:
        return word.isalpha() and word not in TOLD
    if wanted == NUMBER:
        return word.isdigit()
    return word == wanted


def wrong_spot(found):
    """The spot that BadText is to tell of these words, None where they are a hall's text."""
    begun = 0
    left = FORMS
    for spot, word in enumerate(found):
        place = spot - begun
        left = [form for form in left if fits(word, form[place])]
        if not left:
            return spot
        if word == ".":
            begun = spot + 1
            left = FORMS
    return None if begun == len(found) else len(found)


def filled(form, dice):
    names = ("a", "b", "till", "abcdefgh", "go", "v", "hall")
    chosen = []
    for wanted in form:
        if wanted == NAME:
            chosen.append(dice.choice(names))
        elif wanted == NUMBER:
            chosen.append(str(dice.choice((0, 1, 7, 10, 99, 900, 999, 9999))))
        else:
            chosen.append(wanted)
    return chosen


def without_rank_0(found):
    kept = []
    for word in found:
        kept.append(word)
        if kept[-2:] == ["rank", "0"]:
            kept = kept[:-2]
    return kept


# Each row: a text of one statement, and its tuple.
ROWS = (
    ("pool cart holds 5.", ("pool", "cart", 5)),
    ("pool cart holds 0.", ("pool", "cart", 0)),
    ("door a at 0 then b.", ("door", "a", 0, ("at", (0,)), "b")),
    ("door a at 9 3 3 then b.", ("door", "a", 0, ("at", (9, 3, 3)), "b")),
    ("door a rank 0 at 4 then b.", ("door", "a", 0, ("at", (4,)), "b")),
    ("door a rank 7 at 4 then b.", ("door", "a", 7, ("at", (4,)), "b")),
    ("door a at 1 2 3 4 5 6 7 8 9 10 11 12 then b.", ("door", "a", 0, ("at", tuple(range(1, 13))), "b")),
    ("door a draws 1 upto 2 gaps 3 to 4 from 5 then b.", ("door", "a", 0, ("draws", 1, 2, 3, 4, 5), "b")),
    ("door a rank 9 draws 9999 upto 0 gaps 8 to 7 from 6 then b.", ("door", "a", 9, ("draws", 9999, 0, 8, 7, 6), "b")),
    ("way w takes 3 then w.", ("way", "w", 3, "w")),
    ("desk d hands 2 takes 5 then x.", ("desk", "d", 2, (5,), False, (), "x")),
    ("desk d hands 2 takes 5 6 7 8 then x.", ("desk", "d", 2, (5, 6, 7, 8), False, (), "x")),
    ("desk d hands 2 takes 5 6 ranked then x.", ("desk", "d", 2, (5, 6), True, (), "x")),
    ("desk d hands 2 takes 5 rests 1 to 2 then x.", ("desk", "d", 2, (5,), False, ((1, 2),), "x")),
    ("desk d hands 2 takes 5 ranked rests 1 to 2, 9 to 4 then x.", ("desk", "d", 2, (5,), True, ((1, 2), (9, 4)), "x")),
    (
        "desk d hands 2 takes 5 rests 1 to 2, 3 to 4, 5 to 6 then x.",
        ("desk", "d", 2, (5,), False, ((1, 2), (3, 4), (5, 6)), "x"),
    ),
    ("gate g opens 5 for 2 then x.", ("gate", "g", ("opens", 5, 2), "x")),
    ("gate g below 5 at y then x.", ("gate", "g", ("below", 5, "y"), "x")),
    ("fork f by turns then a, b.", ("fork", "f", "turns", ("a", "b"))),
    ("fork f by number then a, b, c.", ("fork", "f", "number", ("a", "b", "c"))),
    ("fork f by least then a, b, a, d.", ("fork", "f", "least", ("a", "b", "a", "d"))),
    ("lend l of cart then x.", ("lend", "l", "cart", "x")),
    ("give l of cart then x.", ("give", "l", "cart", "x")),
    ("exit out.", ("exit", "out")),
)

# Each row: a text that is no hall's, and the spot that is told of it.
WRONG = (
    (".", 0), (",", 0), ("5", 0), ("till", 0), ("then", 0), ("change", 0), ("holds", 0), ("exit out. .", 3),
    ("pool", 1), ("pool cart", 2), ("pool cart holds", 3), ("pool cart holds 5", 4), ("pool cart holds 5,", 4),
    ("pool 5", 1), ("pool holds", 1), ("pool cart 5.", 2), ("pool cart holds.", 3), ("pool cart holds cart.", 3),
    ("pool cart holds 5 6.", 4), ("pool cart holds 5 then a.", 4), ("pool pool holds 5.", 1),
    ("door", 1), ("door a", 2), ("door a then b.", 2), ("door a at then b.", 3), ("door a rank then b.", 3),
    ("door a rank 1 then b.", 4), ("door a rank 1 rank 2 at 3 then b.", 4), ("door a at 1 rank 2 then b.", 4),
    ("door a at 1, 2 then b.", 4), ("door a at 1 2 3 4 5 6 7 8 9 10 11 12 13 then b.", 15),
    ("door a at 1 then.", 5), ("door a at 1 then b, c.", 6), ("door a at 1 then b", 6), ("door a at 1 then at.", 5),
    ("door a draws 1 upto 2 gaps 3 to 4 then b.", 10), ("door a draws 1 2", 4), ("door a draws upto", 3),
    ("door a draws 1 upto 2 gaps 3 4", 8), ("door a draws 1 upto 2 gaps 3 to 4 from 5 6", 12), ("door 5", 1),
    ("door a draws 1 upto 2 gaps 3 to 4 from 5", 12), ("door a at 1 from", 4), ("door at 1 then b.", 1),
    ("way w then x.", 2), ("way w takes then x.", 3), ("way w takes 1 2 then x.", 4), ("way w takes 1.", 4),
    ("way w takes 1 then 5.", 5), ("way w takes 1 then x, y.", 6),
    ("desk d takes 1 then x.", 2), ("desk d hands 1 then x.", 4), ("desk d hands 1 takes then x.", 5),
    ("desk d hands 1 2", 4), ("desk d hands 1 takes 1 2 3 4 5 then x.", 9), ("desk d hands 1 takes 1, 2 then x.", 6),
    ("desk d hands 1 takes 1 ranked ranked then x.", 7), ("desk d hands 1 takes 1 ranked 2 then x.", 7),
    ("desk d hands 1 takes 1 rests then x.", 7), ("desk d hands 1 takes 1 rests 1 then x.", 8),
    ("desk d hands 1 takes 1 rests 1 to then x.", 9), ("desk d hands 1 takes 1 rests 1 to 2 3", 10),
    ("desk d hands 1 takes 1 rests 1 to 2 ranked then x.", 10), ("desk d hands 1 takes 1 rests 1 to 2, then x.", 11),
    ("desk d hands 1 takes 1 rests 1 to 2, 3 to 4, 5 to 6, 7 to 8 then x.", 18),
    ("desk d hands 1 takes 1 rests 1 to 2 rests 3 to 4 then x.", 10), ("desk ranked", 1), ("desk d hands d", 3),
    ("gate g then x.", 2), ("gate g opens 5 then x.", 4), ("gate g opens 5 at y then x.", 4), ("gate g at y", 2),
    ("gate g below 5 for 3 then x.", 4), ("gate g below 5 at 3 then x.", 5), ("gate g below y at 3 then x.", 3),
    ("gate g opens 5 for x then x.", 5), ("gate g opens 5 for 2 2", 6), ("gate g opens 5 for 2 below", 6),
    ("gate g below 5 at then then x.", 5),
    ("fork f then a, b.", 2), ("fork f by then a, b.", 3), ("fork f by least a, b.", 4), ("fork f by till", 3),
    ("fork f by turns then a.", 6), ("fork f by turns then a b.", 6), ("fork f by turns then a,.", 7),
    ("fork f by turns then a, b, c, d, e.", 12), ("fork f by turns then a, b", 8), ("fork f by turns then.", 5),
    ("fork f by turns then a", 6), ("fork f by turns then a, b c.", 8), ("fork f by turns then a, turns.", 7),
    ("fork f by turns number then a, b.", 4), ("fork f by 3", 3), ("fork f by turns then a, b, c, d", 12),
    ("lend l then x.", 2), ("lend l of then x.", 3), ("lend l of 5 then x.", 3), ("lend l of cart x.", 4),
    ("give l at cart then x.", 2), ("give l of cart then x, y.", 6), ("give give of cart then x.", 1),
    ("exit.", 1), ("exit out then x.", 2), ("exit out", 2), ("exit exit.", 1), ("exit 5.", 1), ("exit out, in.", 2),
    ("exit out. exit", 4), ("exit out. exit in. way", 7), ("exit out.\nexit in\nexit more.", 5), ("exit a b.", 2),
)


class FormsTest(unittest.TestCase):
    def test_each_statement_is_read(self):
        for text, told in ROWS:
            with self.subTest(text=text):
                self.assertEqual(hall_of(text), [told])
                self.assertEqual(repr(hall_of(text)), repr([told]))

    def test_every_form_is_read(self):
        dice = random.Random(1)
        for form in FORMS:
            with self.subTest(form=form):
                found = filled(form, dice)
                # Told words, names and numbers come out in the very order in which they went in.
                self.assertEqual(words(written(hall_of(" ".join(found)))), without_rank_0(found))

    def test_no_statements_at_all(self):
        for text in ("", " ", "\n", " \n \n"):
            self.assertEqual(hall_of(text), [])
            self.assertEqual(read(text), [])

    def test_statements_one_behind_another(self):
        text = "\n".join(text for text, told in ROWS)
        self.assertEqual(hall_of(text), [told for text, told in ROWS])

    def test_what_parts_words_means_nothing_else(self):
        for text, told in ROWS:
            found = words(text)
            self.assertEqual(hall_of("\n".join(found)), [told])
            self.assertEqual(hall_of("  \n " + "   ".join(found) + "\n\n"), [told])

    def test_letters_and_figures_side_by_side(self):
        self.assertEqual(hall_of("door a rank3at4 5then b.exit b."),
                         [("door", "a", 3, ("at", (4, 5)), "b"), ("exit", "b")])

    def test_names_like_words_that_are_not_told(self):
        told = [("way", "go", 3, "v"), ("exit", "v"), ("exit", "book")]
        self.assertEqual(hall_of("way go takes 3 then v. exit v. exit book."), told)

    def test_numbers_of_any_size_and_names_twice_are_let_by(self):
        self.assertEqual(hall_of("pool a holds 9999. pool a holds 0."), [("pool", "a", 9999), ("pool", "a", 0)])


class StationsTest(unittest.TestCase):
    def test_read_tells_stations(self):
        for text, told in ROWS:
            stations = read(text)
            self.assertIs(type(stations), list)
            self.assertEqual(len(stations), 1)
            self.assertIsInstance(stations[0], Station)
            self.assertEqual(type(stations[0]).__name__.lower(), told[0])
            self.assertEqual(stations[0].told(), told)

    def test_read_and_hall_of_tell_the_same(self):
        text = " ".join(text for text, told in ROWS)
        self.assertEqual([station.told() for station in read(text)], hall_of(text))

    def test_told_lists_are_the_askers_own(self):
        text = "exit a. exit b."
        asked = hall_of(text)
        asked.clear()
        stations = read(text)
        stations.pop()
        self.assertEqual(hall_of(text), [("exit", "a"), ("exit", "b")])
        self.assertEqual(len(read(text)), 2)


class WrongTextsTest(unittest.TestCase):
    def refused(self, text):
        with self.assertRaises(BadText) as caught:
            read(text)
        with self.assertRaises(BadText) as again:
            hall_of(text)
        self.assertEqual(caught.exception.spot, again.exception.spot)
        return caught.exception.spot

    def test_the_spot(self):
        for text, spot in WRONG:
            with self.subTest(text=text):
                self.assertEqual(self.refused(text), spot)
                self.assertEqual(self.refused("exit out.\n" + text), spot + 3)

    def test_the_rows_are_as_the_forms_tell(self):
        for text, spot in WRONG:
            with self.subTest(text=text):
                self.assertEqual(wrong_spot(words(text)), spot)

    def test_every_form_that_ends_too_soon(self):
        dice = random.Random(2)
        for form in FORMS:
            found = filled(form, dice)
            for many in range(1, len(found)):
                with self.subTest(found=found[:many]):
                    self.assertEqual(self.refused(" ".join(found[:many])), many)

    def test_every_form_with_one_word_put_otherwise(self):
        others = TOLD + ("till", "5", "0", ".", ",")
        dice = random.Random(3)
        for form in FORMS:
            found = filled(form, dice)
            for spot in range(len(found)):
                for other in others:
                    changed = found[:spot] + [other] + found[spot + 1:]
                    self.look(changed)
                self.look(found[:spot] + [dice.choice(others)] + found[spot:])
                self.look(found[:spot] + found[spot + 1:])

    def look(self, found):
        wanted = wrong_spot(found)
        if wanted is None:
            self.assertEqual(words(written(hall_of(" ".join(found)))), without_rank_0(found), found)
        else:
            self.assertEqual(self.refused(" ".join(found)), wanted, found)

    def test_a_wrong_sign_goes_ahead(self):
        rows = (
            ("till A", 5), ("pool pool #", 10), ("exit exit. 007", 11), ("5 abcdefghi", 2), ("then\t", 4),
            ("exit 12345", 5),
        )
        for text, spot in rows:
            with self.subTest(text=text):
                for asked in (read, hall_of):
                    with self.assertRaises(BadSign) as caught:
                        asked(text)
                    self.assertEqual(caught.exception.spot, spot)

    def test_what_is_no_text(self):
        for thing in (None, 5, True, [], ["exit", "out", "."], ("exit", "out"), {}, b"exit out."):
            for asked in (read, hall_of):
                with self.assertRaises(BadSign) as caught:
                    asked(thing)
                self.assertEqual(caught.exception.spot, 0)

    def test_long_texts(self):
        text = "exit a." * 857
        self.assertEqual(len(text), 5999)
        self.assertEqual(len(hall_of(text + " ")), 857)
        with self.assertRaises(BadSign) as caught:
            hall_of(text + "  ")
        self.assertEqual(caught.exception.spot, 0)
        self.assertEqual(self.refused(text + "x"), 857 * 3)

    def test_names_are_names(self):
        self.assertTrue(all(is_name(word) for word in ("a", "go", "till", "changed")))
        for word in TOLD:
            self.assertEqual(self.refused(f"exit {word}."), 1)


if __name__ == "__main__":
    unittest.main()
