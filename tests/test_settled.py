"""What is settled: over long rows of drawn actions a hall tells what point after point of the document tells."""

import random
import unittest

from momentloom.hall import Hall
from momentloom.model import Model
from momentloom.plain import plain

from samples import (
    EMPTY, GO, NOUGHT, chain, lively_machines, lively_signs, number, send, shop, some_machines, some_signs)
from slowhall import PARTS, SlowHall, all_of

SHOP = [(0, 0, 0, "open", 0, 0), (3, 4, 1, "come", 2, 0), (3, 4, 1, "come", 1, 0), (2, 0, 1, "serve", 0, 0)]


def any_of(chance, actions):
    return chance.randrange(1000)


def mostly_doing(chance, actions):
    """So the parts go far ahead, and much is taken back."""
    doings = len([action for action in actions if action[0] == "do"])
    return chance.randrange(doings) if doings and chance.random() < 0.85 else chance.randrange(1000)


def mostly_hearing(chance, actions):
    return len(actions) - 1 - chance.randrange(2) if len(actions) > 2 else chance.randrange(1000)


def one_part_rests(chance, actions):
    """The first part comes to its turn late."""
    return chance.randrange(1, len(actions)) if len(actions) > 1 and chance.random() < 0.9 else 0


WAYS = (any_of, mostly_doing, mostly_hearing, one_part_rests)


class Row(unittest.TestCase):
    def go_on(self, case, seed, count, way):
        """A row of drawn actions, with all that is told looked at ahead of each; the hall is told."""
        model, signs, parting, ahead = case
        chance = random.Random(seed)
        hall = Hall(model, signs, parting, ahead)
        slow = SlowHall(model, signs, parting, ahead)
        book = plain(model, signs, count + 1)
        floors = [hall.floor()]
        settled_keys = []
        for turn in range(count):
            found = all_of(hall)
            self.assertEqual(found, all_of(slow))
            self.check_settled(found, book, settled_keys)
            self.check_floor(found, floors)
            if found["over"]:
                break
            drawn = way(chance, found["actions"])
            self.assertEqual(hall.step(drawn), slow.step(drawn))
        return hall

    def check_settled(self, found, book, settled_keys):
        """The plain run's beginning; what is settled once is so for ever."""
        self.assertEqual(found["settled"], book.records[:len(found["settled"])])
        done = {key for log in found["logs"] for key in log}
        self.assertEqual([key for key in settled_keys if key not in done], [])
        keys = [record[0] for record in found["settled"]]
        self.assertEqual(keys[:len(settled_keys)], settled_keys)
        settled_keys[:] = keys
        if found["over"]:
            self.assertEqual((found["settled"], found["outcome"]), (book.records, book.ending))
            self.assertEqual(found["actions"], [])

    def check_floor(self, found, floors):
        if found["floor"] is None:
            self.assertTrue(found["over"])
        else:
            self.assertGreaterEqual(found["floor"], floors[-1])
            floors.append(found["floor"])


class LongRows(Row):
    def check(self, cases, count):
        """How often something was taken back, and the outcomes."""
        backs = 0
        outcomes = {}
        for seed, case in enumerate(cases):
            way = WAYS[seed % len(WAYS)]
            with self.subTest(seed=seed, parting=case[2], ahead=case[3], way=way.__name__):
                hall = self.go_on(case, seed, count, way)
                backs += hall.taken_back()
                outcomes[(hall.outcome() or ("on",))[0]] = True
        return (backs, sorted(outcomes))

    def test_the_shop(self):
        cases = [
            (shop(), SHOP, parting, ahead)
            for parting in ([0, 1], [1, 0], [2, 2], [5, 3]) for ahead in (None, None, None, 0, 2, 10 ** 6)]
        backs, outcomes = self.check(cases, 250)
        self.assertGreater(backs, 5)
        self.assertIn("end", outcomes)

    def test_a_shop_without_an_end(self):
        machines = shop().machines
        machines[1][4][1][1].pop()
        cases = [(Model(machines), SHOP, parting, None) for parting in ([0, 1], [4, 0], [1, 1], [1, 2])]
        backs, outcomes = self.check(cases, 400)
        self.assertGreater(backs, 20)
        self.assertEqual(outcomes, ["on"])

    def test_lively_models(self):
        chance = random.Random(21)
        cases = []
        for turn in range(60):
            count = chance.randrange(2, 7)
            parting = [chance.choice(PARTS) for at in range(count)]
            ahead = chance.choice([None, None, None, 0, 1, 4, 20, 10 ** 6])
            cases.append((Model(lively_machines(chance, count)), lively_signs(chance, count), parting, ahead))
        backs, outcomes = self.check(cases, 200)
        self.assertGreater(backs, 300)
        self.assertEqual(outcomes, ["end", "fault", "on"])

    def test_each_machine_in_its_own_part(self):
        chance = random.Random(22)
        cases = []
        for turn in range(16):
            parting = chance.sample(list(PARTS), 6)
            cases.append((Model(lively_machines(chance, 6)), lively_signs(chance, 6), parting, None))
        self.assertGreater(self.check(cases, 300)[0], 300)

    def test_short_models(self):
        chance = random.Random(23)
        cases = []
        for turn in range(200):
            parting = [chance.choice(PARTS) for at in range(3)]
            cases.append((Model(some_machines(chance)), some_signs(chance), parting, chance.choice([None, 0, 1])))
        self.assertEqual(self.check(cases, 80)[1], ["empty", "end", "fault", "on"])


def two_ends():
    """Two machines that end and one that is a fault, each by a sign of its own."""
    return Model([
        ("a", [("n", 0)], [], [], [("end", [("put", "n", number(1)), send(1, "deaf", 1), ("end",)])]),
        ("b", [("n", 0)], [], [], [("end", [("put", "n", number(2)), ("end",)])]),
        ("c", [("n", 0)], [], [], [("bad", [("put", "n", number(3)), ("put", "n", NOUGHT)])])])


class Over(unittest.TestCase):
    def hall(self, signs, order):
        """A hall of three parts in which these parts did what was pending, in this order."""
        hall = Hall(two_ends(), signs, [0, 1, 2], None)
        for part in order:
            possible = [action[:2] for action in hall.actions()]
            hall.step(possible.index(("do", part)))
        return hall

    def check(self, hall, signs):
        book = plain(two_ends(), signs, 100)
        self.assertEqual((hall.over(), hall.outcome(), hall.settled()), (True, book.ending, book.records))
        self.assertEqual((hall.actions(), hall.step(0), hall.step(5)), ([], None, None))

    def test_with_an_end(self):
        signs = [(5, 0, 0, "end", 0, 0), (9, 0, 1, "deaf", 0, 0)]
        hall = self.hall(signs, [0])
        self.assertEqual(hall.outcome(), ("end", (5, 0, -1, 0)))
        # What the end sent is pending, and the floor goes with it.
        self.assertEqual(hall.floor(), (6, 0, 0, 0))
        self.check(hall, signs)

    def test_the_record_of_an_end_is_settled_and_none_behind_it(self):
        signs = [(5, 0, 0, "end", 0, 0), (6, 0, 2, "deaf", 0, 0), (6, 0, 1, "deaf", 0, 0)]
        hall = self.hall(signs, [2, 1, 0])
        self.assertEqual(hall.floor(), (6, 0, 0, 0))
        # These two are below the floor, but behind the end.
        self.assertEqual((hall.log(2), hall.log(1)), ([(6, 0, -1, 1)], [(6, 0, -1, 2)]))
        self.assertEqual([record[0] for record in hall.settled()], [(5, 0, -1, 0)])
        self.check(hall, signs)

    def test_with_a_fault(self):
        signs = [(4, 0, 0, "deaf", 0, 0), (5, 0, 2, "bad", 0, 0), (9, 0, 1, "deaf", 0, 0)]
        hall = self.hall(signs, [2, 1, 0])
        self.assertEqual(hall.outcome(), ("fault", "nought", (5, 0, -1, 1)))
        self.assertEqual([record[0] for record in hall.settled()], [(4, 0, -1, 0)])
        self.check(hall, signs)

    def test_with_each_fault(self):
        for deed, word in (
                (("put", "x", NOUGHT), "nought"), (("put", "x", ("plus", number(10 ** 15), number(1))), "great"),
                (("push", "q", number(1)), "full"), (("draw", "x", number(1)), "dry"), (send(0, "go", 0), "span")):
            deeds = [("push", "q", number(1))] * (30 if word == "full" else 1) + [deed]
            model = Model([("a", [("x", 0)], ["q"], [], [("go", deeds)]), ("b", [], [], [], [])])
            signs = [(3, 4, 1, "deaf", 0, 0), (9, 2, 0, "go", 0, 0)]
            hall = Hall(model, signs, [0, 1], None)
            hall.step(0)
            hall.step(0)
            self.assertEqual(hall.outcome(), ("fault", word, (9, 2, -1, 1)))
            self.assertEqual(hall.settled(), plain(model, signs, 9).records)

    def test_not_as_long_as_something_below_is_pending(self):
        for sign in ((5, 0, 0, "end", 0, 0), (5, 0, 2, "bad", 0, 0)):
            signs = [sign, (4, 9, 1, "deaf", 0, 0)]
            hall = self.hall(signs, [sign[2]])
            self.assertEqual((hall.over(), hall.outcome(), hall.settled()), (False, None, []))
            self.assertEqual(hall.actions()[:1], [("do", 1, (4, 9, -1, 1))])
            hall.step(0)
            self.check(hall, signs)

    def test_not_as_long_as_something_below_is_on_its_way(self):
        model = Model([("a", [], [], [], [("go", [send(1, "deaf", 3)])]), ("b", [], [], [], [("end", [("end",)])])])
        signs = GO + [(5, 0, 1, "end", 0, 0)]
        hall = Hall(model, signs, [0, 1], None)
        hall.step(1)
        hall.step(0)
        self.assertEqual((hall.floor(), hall.outcome()), ((3, 0, 0, 0), None))
        self.assertEqual(hall.step(0), ("hear", 1, 0, (3, 0, 0, 0), "sign"))
        self.assertEqual((hall.taken_back(), hall.outcome()), (1, None))
        hall.step(0)
        hall.step(0)
        self.assertEqual(hall.outcome(), ("end", (5, 0, -1, 1)))

    def test_the_first_of_several(self):
        kinds = {0: "end", 1: "end", 2: "bad"}
        for order in ((0, 1, 2), (2, 1, 0), (1, 2, 0), (0, 2, 1)):
            signs = [(5 + place, 0, at, kinds[at], 0, 0) for place, at in enumerate(order)]
            for does in ((0, 1, 2), (2, 1, 0), (1, 0, 2), (1, 2, 0)):
                # Once the first is done nothing is possible any more.
                does = does[:does.index(order[0]) + 1]
                self.check(self.hall(signs, does), signs)

    def test_with_nothing_left(self):
        signs = [(5, 0, 0, "deaf", 0, 0), (9, 0, 1, "deaf", 0, 0)]
        for order in ([0, 1], [1, 0]):
            hall = self.hall(signs, order)
            self.assertEqual((hall.floor(), hall.outcome()), (None, EMPTY))
            self.check(hall, signs)

    def test_an_end_with_nothing_left(self):
        signs = [(5, 0, 1, "end", 0, 0)]
        hall = self.hall(signs, [1])
        self.assertEqual((hall.floor(), hall.outcome()), (None, ("end", (5, 0, -1, 0))))
        self.check(hall, signs)

    def test_a_fault_with_nothing_left(self):
        hall = Hall(chain(3, []), [(0, 0, 0, "bad", 0, 0)], [0], None)
        hall.step(0)
        self.assertEqual((hall.floor(), hall.settled()), (None, []))
        self.assertEqual(hall.outcome(), ("fault", "nought", (0, 0, -1, 0)))

    def test_a_key_that_is_the_floor_is_not_settled(self):
        # Part 1 did the sign that is called back: its key is the floor's as long as the letter is on its way.
        model = Model([
            ("a", [("n", 0)], [], [], [
                ("go", [("if", ("box", "n"), [], [send(1, "hit", 4)])]),
                ("set", [("put", "n", number(1))])]),
            ("b", [], [], [], []), ("c", [], [], [], [("go", [send(0, "set", 1)])])])
        signs = [(2, 0, 0, "go", 0, 0), (0, 0, 2, "go", 0, 0)]
        hall = Hall(model, signs, [0, 1, 2], None)
        for action in (
                ("do", 0, (2, 0, -1, 0)), ("hear", 1, 0, (6, 0, 0, 0), "sign"), ("do", 1, (6, 0, 0, 0)),
                ("do", 2, (0, 0, -1, 1)), ("hear", 0, 2, (1, 0, 2, 0), "sign"), ("do", 0, (1, 0, 2, 0)),
                ("do", 0, (2, 0, -1, 0))):
            self.assertEqual(hall.step(hall.actions().index(action)), action)
        self.assertEqual((hall.floor(), hall.log(1)), ((6, 0, 0, 0), [(6, 0, 0, 0)]))
        self.assertEqual([record[0] for record in hall.settled()], [(0, 0, -1, 1), (1, 0, 2, 0), (2, 0, -1, 0)])
        self.assertEqual(hall.actions(), [("hear", 1, 0, (6, 0, 0, 0), "back")])
        hall.step(0)
        self.assertEqual((hall.log(1), hall.outcome(), len(hall.settled())), ([], EMPTY, 3))


if __name__ == "__main__":
    unittest.main()
