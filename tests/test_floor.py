import random
import unittest

from hallclock.floor import Floor
from hallclock.looking import need_hall
from hallclock.reading import hall_of
from tests.halls import some_change, some_hall
from tests.model import Model


def floor_of(text):
    hall = hall_of(text)
    need_hall(hall)
    return Floor(hall)


class DoorsTest(unittest.TestCase):
    def setUp(self):
        self.floor = floor_of("door a at 0 then x. door b rank 3 at 0 then x. exit x. pool p holds 2.")

    def test_nobody_at_first(self):
        self.assertEqual(self.floor.many(), 0)
        self.assertEqual(self.floor.at("a"), [])
        self.assertEqual(self.floor.at("x"), [])
        self.assertEqual(self.floor.left("p"), 2)

    def test_coming(self):
        self.assertEqual(self.floor.come("b", 7), 0)
        self.assertEqual(self.floor.come("a", 7), 1)
        self.assertEqual(self.floor.come("b", 3), 2)
        self.assertEqual(self.floor.many(), 3)
        self.assertEqual(self.floor.at("a"), [1])
        self.assertEqual(self.floor.at("b"), [0, 2])
        self.assertEqual(self.floor.where(0), ("b", 7, None))
        self.assertEqual(self.floor.where(2), ("b", 3, None))
        self.assertEqual(self.floor.held(0), [])

    def test_a_door_always_lets_by_and_an_exit_never(self):
        self.floor.come("a", 5)
        for turn in (0, 5, 6, 999):
            self.assertIs(self.floor.can(0, turn), True)
        self.assertEqual(self.floor.move(0, 6), ("enters", "x"))
        self.assertEqual(self.floor.where(0), ("x", 6, None))
        self.assertEqual(self.floor.at("a"), [])
        self.assertEqual(self.floor.at("x"), [0])
        for turn in (0, 6, 7, 2000):
            self.assertIs(self.floor.can(0, turn), False)

    def test_by_entering(self):
        for turn in (9, 4, 6):
            self.floor.come("a", turn)
        self.assertEqual(self.floor.at("a"), [0, 1, 2])
        for number in (1, 2, 0):
            self.floor.move(number, 9)
        self.assertEqual(self.floor.at("x"), [1, 2, 0])
        self.assertEqual(self.floor.at("a"), [])


class WaysTest(unittest.TestCase):
    def test_just_ahead_of_its_end_and_at_it(self):
        for takes in (1, 2, 99):
            floor = floor_of(f"door a at 0 then w. way w takes {takes} then x. exit x.")
            floor.come("a", 3)
            floor.move(0, 3)
            self.assertIs(floor.can(0, 3), False)
            self.assertIs(floor.can(0, 2 + takes), False)
            self.assertIs(floor.can(0, 3 + takes), True)
            self.assertIs(floor.can(0, 4 + takes), True)
            # Asked in any order: who could is asked for an earlier turn again.
            self.assertIs(floor.can(0, 0), False)
            self.assertEqual(floor.where(0), ("w", 3, None))
            self.assertEqual(floor.move(0, 3 + takes), ("enters", "x"))

    def test_round_about(self):
        floor = floor_of("door a at 0 then w. way w takes 2 then w.")
        floor.come("a", 0)
        floor.come("a", 0)
        floor.move(0, 0)
        floor.move(1, 0)
        self.assertEqual(floor.at("w"), [0, 1])
        self.assertEqual(floor.move(0, 2), ("enters", "w"))
        self.assertEqual(floor.at("w"), [1, 0])
        self.assertEqual(floor.where(0), ("w", 2, None))
        self.assertIs(floor.can(0, 3), False)
        self.assertIs(floor.can(1, 3), True)


class LoansTest(unittest.TestCase):
    def setUp(self):
        self.floor = floor_of(
            "pool q holds 1. pool p holds 2. door a at 0 then l. lend l of p then m. lend m of q then n."
            "give n of p then o. give o of q then x. exit x."
        )
        for _ in range(3):
            number = self.floor.come("a", 0)
            self.floor.move(number, 0)

    def test_with_and_without_a_thing_left(self):
        floor = self.floor
        self.assertIs(floor.can(2, 0), True)
        self.assertEqual(floor.left("p"), 2)
        self.assertEqual(floor.move(2, 0), ("enters", "m"))
        self.assertEqual(floor.left("p"), 1)
        self.assertEqual(floor.held(2), ["p"])
        floor.move(0, 0)
        self.assertEqual(floor.left("p"), 0)
        for turn in (0, 1, 500):
            self.assertIs(floor.can(1, turn), False)
        self.assertEqual(floor.at("l"), [1])
        self.assertEqual(floor.held(1), [])

    def test_put_back(self):
        floor = self.floor
        floor.move(0, 0)
        floor.move(1, 0)
        floor.move(0, 1)
        self.assertEqual(floor.held(0), ["q", "p"])
        self.assertEqual((floor.left("p"), floor.left("q")), (0, 0))
        self.assertIs(floor.can(1, 1), False)
        self.assertIs(floor.can(0, 1), True)
        self.assertEqual(floor.move(0, 1), ("enters", "o"))
        self.assertEqual(floor.held(0), ["q"])
        self.assertEqual(floor.left("p"), 1)
        self.assertIs(floor.can(2, 1), True)
        self.assertIs(floor.can(1, 1), False)
        floor.move(0, 2)
        self.assertEqual(floor.held(0), [])
        self.assertEqual(floor.left("q"), 1)
        self.assertIs(floor.can(1, 1), True)

    def test_more_things(self):
        floor = self.floor
        floor.move(0, 0)
        floor.move(1, 0)
        self.assertIs(floor.can(2, 0), False)
        self.assertIsNone(floor.change(("holds", "p", 20)))
        self.assertEqual(floor.left("p"), 20)
        self.assertIs(floor.can(2, 0), True)
        floor.change(("holds", "p", 20))
        self.assertEqual(floor.left("p"), 40)
        self.assertEqual(floor.left("q"), 1)
        self.assertEqual(floor.held(0), ["p"])


class GatesTest(unittest.TestCase):
    def test_opens(self):
        floor = floor_of("door a at 0 then g. gate g opens 5 for 2 then x. exit x.")
        floor.come("a", 0)
        floor.move(0, 3)
        able = [turn for turn in range(21) if floor.can(0, turn)]
        self.assertEqual(able, [0, 1, 5, 6, 10, 11, 15, 16, 20])
        self.assertEqual(floor.move(0, 6), ("enters", "x"))

    def test_opens_at_the_bounds(self):
        for every, long in ((1, 1), (99, 1), (99, 99), (2, 1)):
            floor = floor_of(f"door a at 0 then g. gate g opens {every} for {long} then x. exit x.")
            floor.come("a", 0)
            floor.move(0, 0)
            for turn in (0, 1, 2, 97, 98, 99, 100, 198):
                self.assertIs(floor.can(0, turn), turn % every < long)

    def test_opens_changed(self):
        floor = floor_of("door a at 0 then g. gate g opens 5 for 2 then x. exit x.")
        floor.come("a", 0)
        floor.move(0, 3)
        self.assertIsNone(floor.change(("opens", "g", 3, 1)))
        self.assertEqual([turn for turn in range(10) if floor.can(0, turn)], [0, 3, 6, 9])

    def test_below(self):
        floor = floor_of("door a at 0 then g. door b at 0 then x. gate g below 2 at x then y. exit x. exit y.")
        self.assertEqual(floor.come("a", 0), 0)
        floor.move(0, 0)
        self.assertIs(floor.can(0, 0), True)
        floor.move(floor.come("b", 0), 0)
        self.assertIs(floor.can(0, 0), True)
        floor.move(floor.come("b", 0), 0)
        self.assertIs(floor.can(0, 0), False)
        floor.move(floor.come("b", 0), 0)
        self.assertIs(floor.can(0, 9), False)
        floor.change(("below", "g", 3))
        self.assertIs(floor.can(0, 9), False)
        floor.change(("below", "g", 4))
        self.assertIs(floor.can(0, 9), True)
        self.assertEqual(floor.move(0, 9), ("enters", "y"))

    def test_below_at_itself(self):
        floor = floor_of("door a at 0 then g. gate g below 2 at g then x. exit x.")
        floor.come("a", 0)
        floor.come("a", 0)
        floor.move(0, 0)
        self.assertIs(floor.can(0, 0), True)
        floor.move(1, 0)
        self.assertIs(floor.can(0, 0), False)
        self.assertIs(floor.can(1, 0), False)
        floor.change(("below", "g", 3))
        self.assertIs(floor.can(1, 0), True)
        floor.change(("below", "g", 1))
        floor.move(1, 0)
        self.assertIs(floor.can(0, 0), False)


class ForksTest(unittest.TestCase):
    def fork(self, rule, many):
        names = ["x", "y", "z", "u"][:many]
        text = f"door a at 0 then f. fork f by {rule} then {', '.join(names)}." + "".join(f"exit {n}." for n in names)
        return floor_of(text)

    def through(self, floor, many):
        thens = []
        for _ in range(many):
            number = floor.come("a", 0)
            floor.move(number, 0)
            self.assertIs(floor.can(number, 0), True)
            word, name = floor.move(number, 0)
            self.assertEqual(word, "enters")
            thens.append(name)
        return "".join(thens)

    def test_by_turns(self):
        self.assertEqual(self.through(self.fork("turns", 2), 5), "xyxyx")
        self.assertEqual(self.through(self.fork("turns", 4), 6), "xyzuxy")

    def test_by_turns_is_by_moves_not_by_numbers(self):
        floor = self.fork("turns", 3)
        for _ in range(4):
            floor.move(floor.come("a", 0), 0)
        self.assertEqual([floor.move(number, 0)[1] for number in (3, 1, 0, 2)], ["x", "y", "z", "x"])

    def test_by_number(self):
        self.assertEqual(self.through(self.fork("number", 2), 5), "xyxyx")
        floor = self.fork("number", 3)
        for _ in range(5):
            floor.move(floor.come("a", 0), 0)
        self.assertEqual([floor.move(number, 0)[1] for number in (4, 1, 3, 0, 2)], ["y", "y", "x", "x", "z"])

    def test_by_least(self):
        floor = self.fork("least", 3)
        self.assertEqual(self.through(floor, 7), "xyzxyzx")

    def test_by_least_with_others_there(self):
        floor = floor_of(
            "door a at 0 then f. door b at 0 then x. door c at 0 then z. fork f by least then x, y, z."
            "exit x. exit y. exit z."
        )
        floor.move(floor.come("b", 0), 0)
        floor.move(floor.come("b", 0), 0)
        floor.move(floor.come("c", 0), 0)
        # x 2, y 0, z 1
        self.assertEqual(self.through(floor, 5), "yyzxy")

    def test_by_least_with_a_then_told_twice(self):
        floor = floor_of("door a at 0 then f. fork f by least then y, x, y. exit x. exit y.")
        self.assertEqual(self.through(floor, 4), "yxyx")

    def test_all_moves_count_whatever_the_rule_was(self):
        floor = self.fork("number", 3)
        self.assertEqual(self.through(floor, 4), "xyzx")
        self.assertIsNone(floor.change(("by", "f", "turns")))
        self.assertEqual(self.through(floor, 3), "yzx")
        floor.change(("by", "f", "least"))
        self.assertEqual(self.through(floor, 3), "yzx")
        floor.change(("by", "f", "number"))
        self.assertEqual(self.through(floor, 1), "y")


class DesksTest(unittest.TestCase):
    def desk(self, words, doors="door a at 0 then d."):
        return floor_of(f"{doors} desk d {words} then x. exit x.")

    def line_up(self, floor, many, turn=0):
        for _ in range(many):
            floor.move(floor.come("a", turn), turn)

    def able(self, floor, turn):
        return [number for number in range(floor.many()) if floor.can(number, turn)]

    def test_waits_is_served_and_goes_on(self):
        floor = self.desk("hands 1 takes 4")
        self.line_up(floor, 1, 2)
        self.assertEqual(floor.where(0), ("d", 2, None))
        self.assertIs(floor.can(0, 2), True)
        self.assertEqual(floor.move(0, 5), ("begins", "d"))
        self.assertEqual(floor.where(0), ("d", 2, 9))
        self.assertEqual(floor.at("d"), [0])
        self.assertIs(floor.can(0, 5), False)
        self.assertIs(floor.can(0, 8), False)
        self.assertIs(floor.can(0, 9), True)
        self.assertIs(floor.can(0, 10), True)
        self.assertEqual(floor.move(0, 9), ("enters", "x"))
        self.assertEqual(floor.where(0), ("x", 9, None))
        self.assertEqual(floor.at("d"), [])

    def test_one_hand(self):
        floor = self.desk("hands 1 takes 4")
        self.line_up(floor, 3)
        self.assertEqual(self.able(floor, 0), [0])
        floor.move(0, 0)
        self.assertEqual(self.able(floor, 0), [])
        self.assertEqual(self.able(floor, 4), [0])
        floor.move(0, 4)
        self.assertEqual(self.able(floor, 4), [1])
        self.assertEqual(floor.at("d"), [1, 2])

    def test_several_hands(self):
        floor = self.desk("hands 2 takes 4")
        self.line_up(floor, 4)
        floor.move(0, 0)
        self.assertEqual(self.able(floor, 0), [1])
        floor.move(1, 1)
        self.assertEqual(self.able(floor, 1), [])
        self.assertEqual(self.able(floor, 4), [0])
        self.assertEqual(self.able(floor, 5), [0, 1])
        floor.move(1, 5)
        self.assertEqual(self.able(floor, 5), [0, 2])
        floor.move(2, 5)
        self.assertEqual(floor.at("d"), [0, 2, 3])
        self.assertEqual(self.able(floor, 5), [0])

    def test_takes_in_order_round_about(self):
        floor = self.desk("hands 9 takes 4 1 7")
        self.line_up(floor, 8)
        ends = []
        for number in range(8):
            floor.move(number, 10)
            ends.append(floor.where(number)[2] - 10)
        self.assertEqual(ends, [4, 1, 7, 4, 1, 7, 4, 1])

    def test_who_entered_ahead(self):
        floor = self.desk("hands 1 takes 4", "door a at 0 then d. door b rank 9 at 0 then d.")
        for name in ("a", "b", "a"):
            floor.come(name, 5)
        for number in (2, 0, 1):
            floor.move(number, 5)
        self.assertEqual(floor.at("d"), [2, 0, 1])
        self.assertEqual(self.able(floor, 5), [2])
        floor.move(2, 5)
        floor.move(2, 9)
        self.assertEqual(self.able(floor, 9), [0])

    def test_ahead_is_by_entering_not_by_turns(self):
        floor = self.desk("hands 1 takes 4")
        self.line_up(floor, 1, 50)
        self.line_up(floor, 1, 10)
        self.assertEqual(floor.at("d"), [0, 1])
        self.assertEqual(self.able(floor, 50), [0])

    def test_ranked(self):
        doors = "door a at 0 then d. door b rank 9 at 0 then d. door c rank 3 at 0 then d."
        floor = self.desk("hands 1 takes 1 ranked", doors)
        for name in "acbbca":
            floor.move(floor.come(name, 0), 0)
        order = []
        for turn in range(6):
            able = self.able(floor, turn)
            self.assertEqual(len(able), 1)
            order.append(able[0])
            floor.move(able[0], turn)
            floor.move(able[0], turn + 1)
        self.assertEqual(order, [2, 3, 1, 4, 0, 5])

    def test_greater_rank_does_not_break_a_service(self):
        floor = self.desk("hands 1 takes 4 ranked", "door a at 0 then d. door b rank 1 at 0 then d.")
        floor.move(floor.come("a", 0), 0)
        floor.move(0, 0)
        floor.move(floor.come("b", 1), 1)
        floor.move(floor.come("a", 1), 1)
        self.assertEqual(self.able(floor, 3), [])
        self.assertEqual(self.able(floor, 4), [0])
        floor.move(0, 4)
        self.assertEqual(self.able(floor, 4), [1])

    def test_rests(self):
        floor = self.desk("hands 1 takes 4 rests 5 to 8, 20 to 21")
        self.line_up(floor, 1)
        self.assertEqual([turn for turn in range(25) if floor.can(0, turn)],
                         [turn for turn in range(25) if turn not in (5, 6, 7, 20)])

    def test_rests_over_one_another(self):
        floor = self.desk("hands 1 takes 4 rests 5 to 8, 7 to 10, 0 to 2")
        self.line_up(floor, 1)
        self.assertEqual([turn for turn in range(15) if floor.can(0, turn)], [2, 3, 4, 10, 11, 12, 13, 14])

    def test_who_is_served_goes_on_in_a_rest(self):
        floor = self.desk("hands 1 takes 4 rests 1 to 9")
        self.line_up(floor, 2)
        floor.move(0, 0)
        self.assertIs(floor.can(0, 4), True)
        self.assertEqual(floor.move(0, 4), ("enters", "x"))
        self.assertEqual(self.able(floor, 4), [])
        self.assertEqual(self.able(floor, 8), [])
        self.assertEqual(self.able(floor, 9), [1])

    def test_hands_changed(self):
        floor = self.desk("hands 2 takes 4")
        self.line_up(floor, 5)
        floor.move(0, 0)
        floor.move(1, 0)
        self.assertEqual(self.able(floor, 0), [])
        self.assertIsNone(floor.change(("hands", "d", 3)))
        self.assertEqual(self.able(floor, 0), [2])
        floor.move(2, 0)
        floor.change(("hands", "d", 1))
        self.assertEqual(floor.at("d"), [0, 1, 2, 3, 4])
        self.assertEqual(floor.where(1), ("d", 0, 4))
        floor.move(0, 4)
        floor.move(1, 4)
        self.assertEqual(self.able(floor, 4), [2])
        floor.move(2, 4)
        self.assertEqual(self.able(floor, 4), [3])

    def test_takes_changed(self):
        floor = self.desk("hands 9 takes 4 5")
        self.line_up(floor, 6)
        for number in range(3):
            floor.move(number, 0)
        self.assertIsNone(floor.change(("takes", "d", (10, 11, 12, 13))))
        # Services that were begun end as they were told; the next one is the fourth that was ever begun.
        self.assertEqual([floor.where(number)[2] for number in range(3)], [4, 5, 4])
        floor.move(3, 0)
        floor.move(4, 0)
        self.assertEqual([floor.where(number)[2] for number in (3, 4)], [13, 10])
        floor.change(("takes", "d", (99,)))
        floor.move(5, 1)
        self.assertEqual(floor.where(5)[2], 100)
        # The hands stay as they were.
        self.assertEqual(floor.at("d"), [0, 1, 2, 3, 4, 5])

    def test_entering_anew(self):
        floor = floor_of("door a at 0 then d. desk d hands 1 takes 2 then d.")
        floor.move(floor.come("a", 0), 0)
        floor.move(floor.come("a", 0), 0)
        floor.move(0, 0)
        self.assertEqual(floor.move(0, 2), ("enters", "d"))
        self.assertEqual(floor.where(0), ("d", 2, None))
        self.assertEqual(floor.at("d"), [1, 0])
        self.assertEqual(self.able(floor, 2), [1])


class OwnTest(unittest.TestCase):
    TEXT = "pool p holds 2. door a at 0 then l. lend l of p then w. way w takes 1 then g. give g of p then x. exit x."

    def test_told_lists_are_the_askers_own(self):
        floor = floor_of(self.TEXT)
        floor.come("a", 0)
        floor.move(0, 0)
        floor.move(0, 0)
        at, held = floor.at("w"), floor.held(0)
        floor.move(0, 1)
        floor.move(0, 1)
        self.assertEqual((at, held), ([0], ["p"]))
        at = floor.at("x")
        at.append(5)
        held = floor.held(0)
        held.append("p")
        self.assertEqual(floor.at("x"), [0])
        self.assertEqual(floor.held(0), [])

    def test_asking_changes_nothing(self):
        floor = floor_of(self.TEXT)
        floor.come("a", 0)
        for turn in (5, 0, 900):
            floor.can(0, turn)
        self.assertEqual((floor.where(0), floor.many(), floor.left("p")), (("a", 0, None), 1, 2))

    def test_the_hall_is_not_changed_nor_does_changing_it_change_the_floor(self):
        hall = hall_of(self.TEXT)
        floor = Floor(hall)
        floor.come("a", 0)
        floor.move(0, 0)
        floor.move(0, 0)
        floor.change(("holds", "p", 3))
        self.assertEqual(hall, hall_of(self.TEXT))
        hall.clear()
        self.assertIs(floor.can(0, 1), True)
        self.assertEqual(floor.move(0, 1), ("enters", "g"))
        self.assertEqual(floor.come("a", 2), 1)

    def test_two_floors_of_one_hall(self):
        hall = hall_of(self.TEXT)
        one, other = Floor(hall), Floor(hall)
        one.come("a", 0)
        one.move(0, 0)
        one.move(0, 0)
        one.change(("holds", "p", 7))
        self.assertEqual((other.many(), other.left("p"), other.at("w")), (0, 2, []))
        self.assertEqual(other.come("a", 9), 0)
        self.assertEqual((one.where(0), other.where(0)), (("w", 0, None), ("a", 9, None)))


class RandomDeedsTest(unittest.TestCase):
    """Deeds in any order at turns in any order, held against the model."""

    def test_random_deeds(self):
        for seed in range(60):
            dice = random.Random(seed)
            hall = some_hall(dice)
            floor, model = Floor(hall), Model(hall)
            doors = [told for told in hall if told[0] == "door"]
            for _ in range(150):
                model.turn = dice.randint(0, 120)
                self.one_deed(dice, hall, doors, floor, model)
                self.look(hall, floor, model)

    def one_deed(self, dice, hall, doors, floor, model):
        able = [number for number in range(len(model.people)) if model.can(number)]
        choice = dice.random()
        if choice < 0.2 or not model.people:
            door = dice.choice(doors)
            model.people.append({"rank": door[2], "things": set()})
            model.enter(len(model.people) - 1, door[1])
            self.assertEqual(floor.come(door[1], model.turn), len(model.people) - 1)
        elif choice < 0.3:
            change = some_change(dice, hall)
            if change is not None:
                model.change(change)
                floor.change(change)
        elif able:
            number = dice.choice(able)
            self.assertEqual(floor.move(number, model.turn), model.move(number))

    def look(self, hall, floor, model):
        self.assertEqual(floor.many(), len(model.people))
        for number, one in enumerate(model.people):
            self.assertIs(floor.can(number, model.turn), model.can(number), hall)
            self.assertEqual(floor.where(number), (one["name"], one["since"], one["until"]), hall)
            pools = [told[1] for told in hall if told[0] == "pool" and told[1] in one["things"]]
            self.assertEqual(floor.held(number), pools)
        for told in hall:
            if told[0] == "pool":
                self.assertEqual(floor.left(told[1]), model.left[told[1]])
            else:
                self.assertEqual(floor.at(told[1]), model.at(told[1]))


if __name__ == "__main__":
    unittest.main()
