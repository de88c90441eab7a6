"""Reasons: all on which the worth of a box rests, and that these, done alone, are enough."""

import copy
import random
import unittest

from momentloom.deeds import done
from momentloom.model import Model, first_state
from momentloom.plain import plain
from momentloom.reasons import leans_on, reasons

from samples import lively_machines, lively_signs, number, send, shop, some_machines, some_signs
from slowreasons import slow_leans, slow_reasons

SHOP = [(0, 0, 0, "open", 0, 0), (3, 4, 1, "come", 2, 0), (3, 4, 1, "come", 1, 0), (2, 0, 1, "serve", 0, 0)]


def office():
    """One box goes by way of another machine, and the others go by themselves; so their reasons are easily told."""
    return Model([
        ("desk", [("note", 0), ("idle", 4)], [], [], [
            ("jot", [("put", "note", ("got", 0))]),
            ("mail", [("send", 1, "take", number(2), 0, ("box", "note"), number(0))]),
            ("rest", [])]),
        ("till", [("sum", 10), ("note", 3), ("last", 0)], ["line"], [6, 7], [
            ("take", [("put", "sum", ("plus", ("box", "sum"), ("got", 0)))]),
            ("toss", [("draw", "last", number(4))]),
            ("keep", [("push", "line", ("got", 0))]),
            ("call", [("pull", "line", "last", [])])])])


# By places: 0 jot 1, 1 toss, 2 jot 5, 3 mail, 4 rest, 5 take, 6 jot 9, 7 toss.
DAY = [
    (0, 0, 0, "jot", 1, 0), (1, 0, 1, "toss", 0, 0), (2, 0, 0, "jot", 5, 0), (3, 0, 0, "mail", 0, 0),
    (4, 0, 0, "rest", 0, 0), (6, 0, 0, "jot", 9, 0), (7, 0, 1, "toss", 0, 0)]


class Reasons(unittest.TestCase):
    def setUp(self):
        self.records = plain(office(), DAY, 100).records
        self.assertEqual(
            [record[2] for record in self.records], ["jot", "toss", "jot", "mail", "rest", "take", "jot", "toss"])

    def of(self, k, at, box):
        return reasons(office(), self.records, k, at, box)

    def test_by_way_of_another_machine(self):
        self.assertEqual(self.of(8, 1, "sum"), [2, 3, 5])

    def test_by_itself(self):
        self.assertEqual(self.of(8, 0, "note"), [6])
        self.assertEqual(self.of(6, 0, "note"), [2])
        self.assertEqual(self.of(2, 0, "note"), [0])

    def test_a_draw_rests_on_all_draws_ahead(self):
        self.assertEqual(self.of(8, 1, "last"), [1, 7])
        self.assertEqual(self.of(7, 1, "last"), [1])

    def test_a_box_that_was_never_written(self):
        for k in range(9):
            self.assertEqual(self.of(k, 0, "idle"), [])
            # The other machine's box of the same name was written.
            self.assertEqual(self.of(k, 1, "note"), [])

    def test_behind_no_records(self):
        for at, box in ((0, "note"), (0, "idle"), (1, "sum"), (1, "last")):
            self.assertEqual(self.of(0, at, box), [])
            self.assertEqual(reasons(office(), [], 0, at, box), [])

    def test_only_the_first_k_count(self):
        self.assertEqual(self.of(5, 1, "sum"), [])
        self.assertEqual(self.of(6, 1, "sum"), [2, 3, 5])
        self.assertEqual(self.of(1, 0, "note"), [0])
        self.assertEqual(self.of(1, 1, "last"), [])

    def test_somewhat_beyond(self):
        self.assertEqual(self.of(9, 1, "sum"), [2, 3, 5])
        self.assertEqual(self.of(-1, 1, "sum"), [])

    def test_queues(self):
        signs = [
            (0, 0, 1, "keep", 8, 0), (1, 0, 1, "toss", 0, 0), (2, 0, 1, "keep", 9, 0), (3, 0, 1, "call", 0, 0),
            (4, 0, 1, "keep", 7, 0), (5, 0, 1, "call", 0, 0)]
        records = plain(office(), signs, 100).records
        due = ([], [], [1], [1], [0, 2, 3], [0, 2, 3], [0, 2, 3, 4, 5])
        self.assertEqual([reasons(office(), records, k, 1, "last") for k in range(7)], list(due))

    def test_the_count_of_sent_signs(self):
        # What is sent has its count in its key, so the second mail rests on the first.
        signs = [(0, 0, 0, "mail", 0, 0), (1, 0, 0, "jot", 3, 0), (5, 0, 0, "mail", 0, 0)]
        records = plain(office(), signs, 100).records
        self.assertEqual([record[2] for record in records], ["mail", "jot", "take", "mail", "take"])
        self.assertEqual(reasons(office(), records, 5, 1, "sum"), [0, 1, 2, 3, 4])
        self.assertEqual(reasons(office(), records, 4, 1, "sum"), [0, 2])

    def test_kinds(self):
        told = self.of(8, 1, "sum")
        self.assertIsInstance(told, list)
        told.clear()
        self.assertEqual(self.of(8, 1, "sum"), [2, 3, 5])

    def test_what_is_handed_in_stays(self):
        model = office()
        before = copy.deepcopy(self.records)
        for k in range(9):
            for at, box in ((0, "note"), (1, "sum"), (1, "last")):
                reasons(model, self.records, k, at, box)
        self.assertEqual(self.records, before)
        self.assertEqual(model.machines, office().machines)

    def test_1000_records(self):
        model = Model([("m", [("x", 0)], [], [], [("go", [
            ("put", "x", ("plus", ("box", "x"), number(1))), send(0, "go", 1), send(0, "deaf", 1, 5)])])])
        records = plain(model, [(0, 0, 0, "go", 0, 0)], 1000).records
        told = reasons(model, records, 1000, 0, "x")
        self.assertEqual(told, [place for place in range(1000) if records[place][2] == "go"])


class Enough(unittest.TestCase):
    """Done alone, the reasons write and send what they did in the book, and leave the box with its worth."""

    def check(self, model, signs, most, ks):
        records = plain(model, signs, most).records
        leans = slow_leans(model, records)
        lengths = []
        for k in ks(len(records)):
            states = plain(model, signs, k).states
            for at, machine in enumerate(model.machines):
                for box, first in machine[1]:
                    told = reasons(model, records, k, at, box)
                    self.assertEqual(told, slow_reasons(leans, records, k, at, box))
                    self.check_alone(model, records, told, at, box, states[at].boxes[box])
                    lengths.append((len(told), k))
        return lengths

    def check_alone(self, model, records, told, at, box, worth):
        states = [first_state(model, machine) for machine in range(len(model.machines))]
        for place in told:
            to = records[place][1]
            states[to], record, ends = done(model, states[to], records[place][:5])
            self.assertEqual(record, records[place])
        self.assertEqual(states[at].boxes[box], worth)

    def every(self, count):
        return range(count + 1)

    def some(self, count):
        return sorted({0, count // 2, max(count - 1, 0), count})

    def test_the_shop(self):
        for count in range(len(SHOP) + 1):
            self.check(shop(), SHOP[:count], 30, self.every)

    def test_the_office(self):
        self.check(office(), DAY, 100, self.every)

    def test_many_models(self):
        chance = random.Random(21)
        lengths = []
        for turn in range(150):
            lengths.extend(self.check(Model(some_machines(chance)), some_signs(chance), 25, self.some))
        self.assertIn((0, 0), lengths)
        self.assertTrue(any(0 < found < k for found, k in lengths))

    def test_lively_models(self):
        chance = random.Random(211)
        for turn in range(30):
            count = chance.randrange(1, 5)
            lengths = self.check(Model(lively_machines(chance, count)), lively_signs(chance, count), 50, self.some)
        self.assertTrue(any(0 < found < k for found, k in lengths))

    def test_all_on_which_a_reason_leans_are_reasons(self):
        records = plain(shop(), SHOP, 30).records
        told = reasons(shop(), records, 30, 1, "last")
        self.assertGreater(len(told), 3)
        self.assertLess(len(told), 30)
        for place in told:
            self.assertLessEqual(set(leans_on(shop(), records, place)), set(told))


if __name__ == "__main__":
    unittest.main()
