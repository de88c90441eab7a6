"""Leaning: each cause by which a record leans on one ahead of it, and what is no cause."""

import copy
import random
import unittest

from momentloom.model import Model
from momentloom.plain import plain
from momentloom.reasons import leans_on

from samples import EMPTY, lively_machines, lively_signs, number, send, shop, some_machines, some_signs
from slowreasons import slow_leans

SIGNS = "abcd"


def put(box, worth=number(7)):
    return ("put", box, worth)


def push(queue="q", worth=number(7)):
    return ("push", queue, worth)


def pull(queue="q", box="v", deeds=()):
    return ("pull", queue, box, list(deeds))


def draw(box="v", by=number(5)):
    return ("draw", box, by)


def machine(name, rows):
    """A machine that hears "a" with the first row of deeds, "b" with the second, and so on."""
    boxes = [(box, 1) for box in ("v", "w", "x", "y", "z")]
    return (name, boxes, ["q", "r"], [3, 14, 15], list(zip(SIGNS, rows)))


class Leaning(unittest.TestCase):
    def leans(self, *rows):
        """On which the last leans, where one machine does these rows of deeds, one each time, by outside signs."""
        model = Model([machine("m", rows)])
        book = plain(model, [(time, 0, 0, SIGNS[time], 0, 0) for time in range(len(rows))], 100)
        # What the deeds send comes far behind all of these.
        self.assertEqual([record[2] for record in book.records[:len(rows)]], list(SIGNS[:len(rows)]))
        return leans_on(model, book.records, len(rows) - 1)


class Formulas(Leaning):
    def reading(self, formula):
        """Each deed with a formula, as one that reckons this one."""
        return [
            put("v", formula), push("q", formula), draw("v", formula),
            ("send", 0, "deaf", formula, 0, number(0), number(0)),
            ("send", 0, "deaf", number(500), 0, formula, number(0)),
            ("send", 0, "deaf", number(500), 0, number(0), formula), ("if", formula, [], [])]

    def test_a_box_in_each_deeds_formula(self):
        for deed in self.reading(("box", "x")):
            self.assertEqual(self.leans([put("x", number(500))], [deed]), [0], deed)
            self.assertEqual(self.leans([put("y", number(500))], [deed]), [], deed)
            self.assertEqual(self.leans([], [deed]), [], deed)

    def test_a_queue_in_each_deeds_formula(self):
        for deed in self.reading(("plus", ("long", "r"), number(500))):
            self.assertEqual(self.leans([push("r")], [deed]), [0], deed)
            self.assertEqual(self.leans([push("q"), pull("q")], [deed]), [0] if deed[0] == "push" else [], deed)

    def test_numbers_what_came_and_the_time_are_no_reading(self):
        for formula in (number(3), ("got", 0), ("got", 1), ("now",)):
            for deed in (put("v", formula), ("if", formula, [], []), ("if", formula, [put("w")], [put("w")])):
                self.assertEqual(self.leans([put("x"), put("v"), put("w"), push("q")], [deed]), [])

    def test_formulas_within_formulas(self):
        for kind in ("plus", "less", "times", "part", "rest", "below", "same"):
            inner = (kind, number(9), ("plus", number(2), ("long", "q")))
            formula = (kind, ("plus", ("box", "x"), number(1)), ("plus", number(2), inner))
            rows = ([put("x")], [push("q")], [put("y")], [put("v", formula)])
            self.assertEqual(self.leans(*rows), [0, 1], kind)
            self.assertEqual(self.leans(*rows[:2], [put("v", (kind, number(4), ("box", "x")))]), [0])
            self.assertEqual(self.leans(*rows[:2], [put("v", (kind, ("box", "x"), number(4)))]), [0])

    def test_what_decides_nothing_counts_too(self):
        # Times 0 comes to 0 whatever the box holds, but the box stands in a formula that was reckoned.
        self.assertEqual(self.leans([put("x")], [put("v", ("times", number(0), ("box", "x")))]), [0])
        self.assertEqual(self.leans([put("x")], [("if", ("box", "x"), [put("v")], [put("v")])]), [0])

    def test_two_names_written_by_one(self):
        formula = ("plus", ("box", "x"), ("plus", ("box", "y"), ("plus", ("box", "x"), ("long", "q"))))
        self.assertEqual(self.leans([put("x"), put("y"), push("q")], [put("v", formula)]), [0])

    def test_the_last_that_wrote_it(self):
        self.assertEqual(self.leans([put("x")], [put("x")], [put("v", ("box", "x"))]), [1])
        self.assertEqual(self.leans([put("x")], [put("y")], [put("v", ("box", "x"))]), [0])
        self.assertEqual(self.leans([push("q")], [pull("q")], [put("w", ("long", "q"))]), [1])

    def test_also_where_the_same_worth_was_written(self):
        self.assertEqual(self.leans([put("x", number(1))], [put("v", ("box", "x"))]), [0])
        self.assertEqual(self.leans([put("x")], [put("x", ("box", "x"))], [put("v", ("box", "x"))]), [1])


class Writers(Leaning):
    """What counts as having written, seen by one that reads."""

    def test_each_deed_that_writes_a_box(self):
        read = [put("w", ("box", "x"))]
        self.assertEqual(self.leans([put("x")], read), [0])
        self.assertEqual(self.leans([push("q"), pull("q", "x")], read), [0])
        self.assertEqual(self.leans([draw("x")], read), [0])

    def test_a_pull_from_an_empty_queue_writes_nothing(self):
        self.assertEqual(self.leans([pull("q", "x")], [put("w", ("box", "x"))]), [])
        self.assertEqual(self.leans([pull("q", "x")], [put("w", ("long", "q"))]), [])
        self.assertEqual(self.leans([pull("q", "x", [put("y")])], [put("w", ("box", "y"))]), [0])

    def test_a_queue_that_is_as_it_was(self):
        self.assertEqual(self.leans([push("q"), pull("q", "x")], [put("w", ("long", "q"))]), [0])

    def test_deeds_that_were_not_done_write_nothing(self):
        read = [put("w", ("box", "x"))]
        self.assertEqual(self.leans([("if", number(0), [put("x")], [])], read), [])
        self.assertEqual(self.leans([("if", number(1), [], [put("x")])], read), [])
        self.assertEqual(self.leans([push("q"), pull("q", "v", [put("x")])], read), [])

    def test_reading_is_no_writing(self):
        self.assertEqual(self.leans([put("v", ("box", "x"))], [put("w", ("box", "x"))]), [])
        self.assertEqual(self.leans([put("x")], [put("v", ("box", "x"))], [put("w", ("box", "x"))]), [0])

    def test_the_boxes_of_another_machine_are_others(self):
        model = Model([
            machine("m", [[put("x"), push("q"), draw("v"), send(0, "deaf", 500)]]),
            machine("n", [[
                put("v", ("plus", ("box", "x"), ("long", "q"))), push("q"), draw("y"), send(0, "deaf", 500)]])])
        records = plain(model, [(0, 0, 0, "a", 0, 0), (1, 0, 1, "a", 0, 0), (2, 0, 0, "a", 0, 0)], 3).records
        self.assertEqual([leans_on(model, records, place) for place in range(3)], [[], [], [0]])


class Queues(Leaning):
    def test_pushing_to(self):
        self.assertEqual(self.leans([push("q")], [push("q")]), [0])
        self.assertEqual(self.leans([push("r")], [push("q")]), [])
        self.assertEqual(self.leans([push("q")], [push("q")], [push("r")], [push("q")]), [1])
        self.assertEqual(self.leans([push("q"), pull("q")], [push("q")]), [0])

    def test_pulling_from(self):
        self.assertEqual(self.leans([push("q")], [pull("q")]), [0])
        self.assertEqual(self.leans([push("r")], [pull("q")]), [])
        self.assertEqual(self.leans([push("q"), push("q")], [pull("q")], [pull("q")]), [1])

    def test_trying_to_pull_from_an_empty_one(self):
        self.assertEqual(self.leans([push("q"), pull("q")], [pull("q")]), [0])
        self.assertEqual(self.leans([push("q")], [pull("q")], [pull("q")]), [1])
        self.assertEqual(self.leans([push("q")], [pull("q")], [pull("q")], [pull("q")]), [1])
        self.assertEqual(self.leans([], [pull("q")]), [])


class Counting(Leaning):
    def test_drawing(self):
        self.assertEqual(self.leans([draw("v")], [draw("w")]), [0])
        self.assertEqual(self.leans([draw("v")], [draw("v")], [put("x")], [draw("w")]), [1])
        self.assertEqual(self.leans([draw("v")], [put("w")]), [])
        self.assertEqual(self.leans([put("v")], [draw("w")]), [])

    def test_draws_that_were_not_done(self):
        self.assertEqual(self.leans([("if", number(0), [draw("v")], [])], [draw("w")]), [])
        self.assertEqual(self.leans([draw("v")], [("if", number(1), [], [draw("w")])]), [])
        self.assertEqual(self.leans([draw("v")], [("if", number(0), [], [draw("w")])]), [0])

    def test_sending(self):
        away = send(0, "deaf", 500)
        self.assertEqual(self.leans([away], [away]), [0])
        self.assertEqual(self.leans([away], [away], [put("x")], [away]), [1])
        self.assertEqual(self.leans([away], [put("x")]), [])
        self.assertEqual(self.leans([put("x")], [away]), [])

    def test_sending_that_was_not_done(self):
        away = send(0, "deaf", 500)
        self.assertEqual(self.leans([("if", number(0), [away], [])], [away]), [])
        self.assertEqual(self.leans([away], [("if", number(0), [away], [])]), [])

    def test_drawing_and_sending_are_two(self):
        self.assertEqual(self.leans([send(0, "deaf", 500)], [draw("w")]), [])
        self.assertEqual(self.leans([draw("w")], [send(0, "deaf", 500)]), [])
        self.assertEqual(self.leans([draw("w")], [send(0, "deaf", 500)], [draw("x"), send(0, "deaf", 500)]), [0, 1])


class NotRead(Leaning):
    def test_the_box_that_a_deed_writes(self):
        self.assertEqual(self.leans([put("x")], [put("x")]), [])
        self.assertEqual(self.leans([put("x")], [push("q"), pull("q", "x")]), [])
        self.assertEqual(self.leans([put("x")], [pull("q", "x")]), [])
        self.assertEqual(self.leans([put("x")], [draw("x")]), [])

    def test_but_where_it_stands_in_the_deeds_own_formula(self):
        self.assertEqual(self.leans([put("x")], [put("x", ("plus", ("box", "x"), number(1)))]), [0])
        self.assertEqual(self.leans([put("x")], [draw("x", ("box", "x"))]), [0])

    def test_deeds_that_were_not_done(self):
        read = put("v", ("box", "x"))
        self.assertEqual(self.leans([put("x"), push("q")], [("if", number(0), [read, push("q"), pull("q")], [])]), [])
        self.assertEqual(self.leans([put("x"), push("q")], [("if", number(9), [], [read, push("q"), pull("q")])]), [])
        self.assertEqual(self.leans([put("x")], [push("q"), pull("q", "w", [read])]), [])

    def test_deeds_within_others_that_were_done(self):
        read = put("v", ("box", "x"))
        self.assertEqual(self.leans([put("x")], [("if", number(-1), [read], [])]), [0])
        self.assertEqual(self.leans([put("x")], [("if", number(0), [], [("if", number(3), [read], [])])]), [0])
        self.assertEqual(self.leans([put("x")], [pull("q", "w", [("if", number(0), [], [read])])]), [0])

    def test_which_were_done_is_seen_by_what_the_boxes_held(self):
        read = ("if", ("same", ("box", "w"), number(4)), [put("v", ("box", "x"))], [put("v", ("box", "y"))])
        rows = ([put("x")], [put("y")])
        self.assertEqual(self.leans(*rows, [put("w", number(4))], [read]), [0, 2])
        self.assertEqual(self.leans(*rows, [put("w", number(5))], [read]), [1, 2])
        # The third draw is 15, and the fourth is the first again.
        by_draw = [draw("w", number(100)), ("if", ("same", ("box", "w"), number(15)), [put("v", ("box", "x"))], [])]
        self.assertEqual(self.leans([draw("v"), draw("v"), put("x")], by_draw), [0])
        self.assertEqual(self.leans([put("x"), put("w")], [draw("v"), draw("v"), draw("v")], by_draw), [0, 1])

    def test_an_end_reads_nothing(self):
        model = Model([machine("m", [[put("x"), push("q"), draw("v")], [("end",)]])])
        records = plain(model, [(0, 0, 0, "a", 0, 0), (1, 0, 0, "b", 0, 0)], 9).records
        self.assertEqual(leans_on(model, records, 1), [])

    def test_nothing_ahead(self):
        deeds = [put("v", ("plus", ("box", "x"), ("long", "q"))), push("q"), pull("r"), draw("y"), send(0, "deaf", 500)]
        self.assertEqual(self.leans(deeds), [])


class SameHappening(Leaning):
    def test_written_and_then_read_counts_as_read(self):
        self.assertEqual(self.leans([put("x")], [put("x"), put("v", ("box", "x"))]), [0])
        self.assertEqual(self.leans([], [put("x"), put("v", ("box", "x"))]), [])
        self.assertEqual(self.leans([push("q"), pull("q")], [push("q"), pull("q")]), [0])
        self.assertEqual(self.leans([put("x")], [push("q"), pull("q", "x"), put("v", ("box", "x"))]), [0])
        self.assertEqual(self.leans([put("x")], [draw("x"), put("v", ("box", "x"))]), [0])

    def test_read_and_then_written(self):
        self.assertEqual(self.leans([put("x")], [put("v", ("box", "x")), put("x")], [put("w", ("box", "x"))]), [1])


class Senders(Leaning):
    def of(self, machines, signs):
        model = Model(machines)
        records = plain(model, signs, 50).records
        return [leans_on(model, records, place) for place in range(len(records))]

    def test_the_sender(self):
        one = machine("m", [[send(1, "b", 3)], [put("x")]])
        other = machine("n", [[], [send(0, "b", 1)]])
        self.assertEqual(self.of([one, other], [(0, 0, 0, "a", 0, 0)]), [[], [0], [1]])

    def test_of_several_the_one_that_sent_it(self):
        model = [machine("m", [[send(1, "a", 9)], [send(1, "b", 2)]]), machine("n", [[], []])]
        # The second is sent later and comes sooner; to send it leans on what was sent ahead.
        self.assertEqual(
            self.of(model, [(0, 0, 0, "a", 0, 0), (1, 0, 0, "b", 0, 0)]), [[], [0], [1], [0]])

    def test_a_sign_that_is_not_heard(self):
        self.assertEqual(self.of([machine("m", [[send(0, "deaf", 1), put("x")]])], [(0, 0, 0, "a", 0, 0)]), [[], [0]])

    def test_an_outside_sign_has_none(self):
        model = [machine("m", [[send(0, "b", 3)], [put("x")]])]
        # The same sign at the same time, once sent and once from outside.
        self.assertEqual(self.of(model, [(0, 0, 0, "a", 0, 0), (3, 0, 0, "b", 0, 0)]), [[], [], [0]])

    def test_several_signs_of_one(self):
        model = [machine("m", [[send(0, "b", 1), send(0, "b", 2), send(0, "b", 3)], [put("x", ("box", "x"))]])]
        self.assertEqual(self.of(model, [(0, 0, 0, "a", 0, 0)]), [[], [0], [0, 1], [0, 2]])

    def test_all_causes_together(self):
        deeds = [
            put("v", ("box", "w")), push("q", ("long", "r")), draw("x", ("box", "y")), send(0, "deaf", 500)]
        writing = [put("w"), draw("z"), draw("x")]
        model = Model([machine("m", [[send(0, "d", 50)], writing, [push("q"), put("y")], deeds])])
        signs = [(9, 0, 0, "c", 0, 0), (1, 0, 0, "b", 0, 0), (0, 0, 0, "a", 0, 0)]
        records = plain(model, signs, 50).records
        self.assertEqual(records[3][2], "d")
        self.assertEqual(leans_on(model, records, 3), [0, 1, 2])
        # The sender is also the last that sent, and is told once.
        self.assertEqual(records[0][6][0][0], records[3][0])


class AsTold(unittest.TestCase):
    def check(self, model, signs, most):
        records = plain(model, signs, most).records
        due = slow_leans(model, records)
        for place in range(len(records)):
            self.assertEqual(leans_on(model, records, place), due[place])
            self.assertEqual(leans_on(model, records[:place + 1], place), due[place])
        return due

    def test_the_shop(self):
        signs = [(0, 0, 0, "open", 0, 0), (3, 4, 1, "come", 2, 0), (3, 4, 1, "come", 1, 0), (2, 0, 1, "serve", 0, 0)]
        due = self.check(shop(), signs, 40)
        self.assertGreater(max(len(leans) for leans in due), 2)

    def test_many_models(self):
        chance = random.Random(20)
        for turn in range(150):
            self.check(Model(some_machines(chance)), some_signs(chance), 25)

    def test_lively_models(self):
        chance = random.Random(201)
        for turn in range(30):
            count = chance.randrange(1, 5)
            self.check(Model(lively_machines(chance, count)), lively_signs(chance, count), 40)

    def test_1000_records(self):
        model = Model([machine("m", [[put("x", ("plus", ("box", "x"), number(1))), send(0, "a", 1)]])])
        records = plain(model, [(0, 0, 0, "a", 0, 0)], 1000).records
        self.assertEqual(leans_on(model, records, 999), [998])


class Apart(unittest.TestCase):
    signs = [(0, 0, 0, "open", 0, 0), (3, 4, 1, "come", 2, 0)]

    def test_what_is_handed_in_stays(self):
        model = shop()
        records = plain(model, self.signs, 20).records
        before = copy.deepcopy(records)
        for place in range(len(records)):
            leans_on(model, records, place)
        self.assertEqual(records, before)
        self.assertEqual(model.machines, shop().machines)

    def test_changing_what_is_told(self):
        model = shop()
        records = plain(model, self.signs, 20).records
        before = leans_on(model, records, 12)
        self.assertTrue(before)
        leans_on(model, records, 12).clear()
        self.assertEqual(leans_on(model, records, 12), before)

    def test_kinds(self):
        book = plain(shop(), self.signs, 20)
        self.assertNotEqual(book.ending, EMPTY)
        for place in range(20):
            told = leans_on(shop(), book.records, place)
            self.assertIsInstance(told, list)
            self.assertEqual(told, sorted(set(told)))
            self.assertTrue(all(0 <= other < place for other in told))


if __name__ == "__main__":
    unittest.main()
