"""Finishing a hall: whatever it did before, it tells the plain run's book, and can go on."""

import random
import unittest

from momentloom.hall import Hall
from momentloom.model import Model
from momentloom.plain import plain

from samples import (
    CUT, EMPTY, GO, NOUGHT, chain, lively_machines, lively_signs, number, parts_of, send, shop, some_machines,
    some_signs)
from slowhall import PARTS, SlowHall, all_of

SHOP = [(0, 0, 0, "open", 0, 0), (3, 4, 1, "come", 2, 0), (3, 4, 1, "come", 1, 0), (2, 0, 1, "serve", 0, 0)]


def relay(steps, behind):
    """Two machines that send to one another, a time apart, so many steps; the last does the deeds behind."""
    def hears(other):
        return [
            ("go", [
                ("put", "n", ("plus", ("got", 0), number(1))), ("push", "q", ("now",)), ("pull", "q", "d", []),
                ("if", ("below", ("box", "n"), number(steps)), [
                    ("send", other, "go", number(1), 0, ("box", "n"), number(0))], behind)]),
            ("bad", [("push", "q", number(1)), send(0, "go", 1), ("put", "n", NOUGHT)])]
    return Model([(name, [("n", 0), ("d", 0)], ["q"], [], hears(1 - at)) for at, name in enumerate("ab")])


class Finish(unittest.TestCase):
    def check(self, hall, model, signs, most):
        book = hall.finish(most)
        self.assertEqual(parts_of(book), parts_of(plain(model, signs, most)))
        return book


class AtTheBeginning(Finish):
    def each(self, model, signs, count):
        """The endings for none, for fewer than the run has, for just as many and for more."""
        found = []
        for most in (0, 1, count - 1, count, count + 1, 1000):
            for parting in ([0, 1], [1, 0], [3, 3]):
                for ahead in (None, 0, 5):
                    hall = Hall(model, signs, parting, ahead)
                    book = self.check(hall, model, signs, most)
                    self.assertEqual(len(book.records), min(most, count))
            found.append(book.ending)
        return found

    def test_end(self):
        ending = ("end", (5, 0, 0, 2))
        self.assertEqual(self.each(relay(6, [("end",)]), GO, 6), [CUT, CUT, CUT, ending, ending, ending])
        signs = GO + [(50, 0, 0, "deaf", 0, 0), (5, 0, 0, "deaf", 0, 0)]
        self.assertEqual(self.each(relay(6, [("end",)]), signs, 7), [CUT, CUT, CUT, ending, ending, ending])

    def test_fault(self):
        # The fault is due only where the happening may still be done.
        ending = ("fault", "nought", (6, 0, 1, 2))
        model = relay(6, [send(0, "bad", 1)])
        self.assertEqual(self.each(model, GO, 6), [CUT, CUT, CUT, CUT, ending, ending])

    def test_empty(self):
        self.assertEqual(self.each(relay(6, []), GO, 6), [CUT, CUT, CUT, EMPTY, EMPTY, EMPTY])

    def test_cut(self):
        model = relay(10 ** 9, [])
        for most in (0, 1, 2, 50):
            book = self.check(Hall(model, GO, [0, 1], None), model, GO, most)
            self.assertEqual((len(book.records), book.ending), (most, CUT))

    def test_a_fault_at_the_first_happening(self):
        signs = [(0, 0, 1, "bad", 0, 0), (4, 0, 0, "go", 0, 0)]
        for most, ending in ((0, CUT), (1, ("fault", "nought", (0, 0, -1, 0)))):
            book = self.check(Hall(relay(6, []), signs, [0, 1], None), relay(6, []), signs, most)
            self.assertEqual((book.records, book.ending), ([], ending))

    def test_the_shop(self):
        for parting in ([0, 1], [4, 1], [2, 2]):
            for most in range(45):
                self.check(Hall(shop(), SHOP, parting, None), shop(), SHOP, most)

    def test_1000_records_and_somewhat_more(self):
        model = Model([
            (name, [("x", at)], ["q"], [7, 8], [("go", [
                ("draw", "x", number(50)), send((at + 1) % 4, "go", 1 + at), send((at + 2) % 4, "deaf", 3)])])
            for at, name in enumerate("abcd")])
        for most in (1000, 1003):
            book = self.check(Hall(model, GO, [0, 1, 2, 0], None), model, GO, most)
            self.assertEqual((len(book.records), book.ending), (most, CUT))

    def test_fewer_than_none(self):
        # Somewhat beyond what may be asked, and so not refused.
        for signs in (GO, []):
            self.check(Hall(relay(6, []), signs, [0, 1], None), relay(6, []), signs, -1)
        hall = Hall(relay(6, []), GO, [0, 1], None)
        hall.finish(100)
        self.check(hall, relay(6, []), GO, -1)


class Serving(Finish):
    def test_no_further_than_needed(self):
        hall = Hall(relay(6, []), GO, [0, 1], None)
        for most in range(5):
            self.check(hall, relay(6, []), GO, most)
            # One record more than asked for makes it sure that something is pending behind them.
            self.assertEqual(len(hall.settled()), most + 1)
            self.assertEqual(len(hall.log(0)) + len(hall.log(1)), most + 1)
            self.assertEqual(len(hall.actions()), 1)
            self.assertFalse(hall.over())

    def test_nothing_is_done_where_more_is_settled(self):
        hall = Hall(shop(), SHOP, [0, 1], None)
        hall.finish(12)
        before = all_of(hall)
        for most in (0, 1, 5, 12):
            self.check(hall, shop(), SHOP, most)
            self.assertEqual(all_of(hall), before)

    def test_a_hall_that_is_over_stays_as_it_is(self):
        hall = Hall(relay(6, [("end",)]), GO, [0, 1], None)
        self.check(hall, relay(6, [("end",)]), GO, 1000)
        before = all_of(hall)
        self.assertTrue(hall.over())
        for most in (1000, 6, 5, 0, 3):
            self.check(hall, relay(6, [("end",)]), GO, most)
            self.assertEqual(all_of(hall), before)

    def test_the_first_letter_of_the_road_on_which_the_floors_is(self):
        model = Model([
            ("a", [], [], [], [("go", [send(1, "hit", 9), send(1, "hit", 2), send(1, "hit", 4)])]),
            ("b", [], [], [], [])])
        hall = Hall(model, GO, [0, 1], None)
        self.check(hall, model, GO, 0)
        self.assertEqual(hall.actions(), [("hear", 1, 0, (9, 0, 0, 0), "sign")])
        self.check(hall, model, GO, 1)
        self.assertEqual(hall.log(1), [(2, 0, 0, 1)])
        # The last letter is not heard: it was not the floor's, and none behind it was.
        self.assertEqual(hall.actions(), [("do", 1, (9, 0, 0, 0)), ("hear", 1, 0, (4, 0, 0, 2), "sign")])

    def test_what_is_not_the_floors_stays_on_its_way(self):
        model = Model([
            ("a", [], [], [], [("go", [send(1, "hit", 9), send(2, "hit", 2)])]), ("b", [], [], [], []),
            ("c", [], [], [], [])])
        hall = Hall(model, GO, [0, 1, 2], None)
        self.check(hall, model, GO, 1)
        self.assertEqual(hall.actions(), [("hear", 1, 0, (9, 0, 0, 0), "sign")])

    def test_the_bound_is_no_hindrance(self):
        signs = [(0, 0, 0, "go", 0, 0), (1000, 0, 1, "go", 0, 0)]
        for ahead in (0, 3):
            hall = Hall(relay(3, []), signs, [0, 1], ahead)
            self.assertEqual(self.check(hall, relay(3, []), signs, 100).ending, EMPTY)

    def test_far_ahead_with_a_wrong_fault_in_the_log(self):
        model = Model([
            ("a", [], [], [], [("go", [send(1, "fill", 3)])]),
            ("b", [("n", 0)], [], [], [
                ("fill", [("put", "n", number(4))]), ("tick", [("put", "n", ("part", number(8), ("box", "n")))])])])
        signs = GO + [(5, 0, 1, "tick", 0, 0), (6, 0, 1, "tick", 0, 0)]
        hall = Hall(model, signs, [0, 1], None)
        self.assertEqual(hall.step(1), ("do", 1, (5, 0, -1, 1)))
        self.assertEqual(len(hall.actions()), 1)
        book = self.check(hall, model, signs, 100)
        self.assertEqual((book.ending, hall.taken_back()), (EMPTY, 1))
        self.assertEqual(book.states[1].boxes, {"n": 4})


class BehindDrawnSteps(Finish):
    def cases(self, seed, count):
        chance = random.Random(seed)
        for turn in range(count):
            machines = chance.randrange(1, 7)
            model = Model(lively_machines(chance, machines))
            signs = lively_signs(chance, machines)
            parting = [chance.choice(PARTS) for at in range(machines)]
            yield chance, model, signs, parting, chance.choice([None, None, 0, 2, 30])

    def gone_on(self, chance, hall, count):
        for turn in range(chance.randrange(count)):
            hall.step(chance.randrange(1000))
        return hall

    def test_any_number(self):
        for chance, model, signs, parting, ahead in self.cases(31, 60):
            hall = self.gone_on(chance, Hall(model, signs, parting, ahead), 120)
            count = len(hall.settled())
            for most in (0, max(count - 1, 0), count, count + 1, count + chance.randrange(40), count // 2):
                self.check(hall, model, signs, most)

    def test_to_the_very_end(self):
        chance = random.Random(32)
        endings = {}
        for turn in range(150):
            model = Model(some_machines(chance))
            signs = some_signs(chance)
            parting = [chance.choice(PARTS) for at in range(3)]
            count = len(plain(model, signs, 60).records)
            hall = self.gone_on(chance, Hall(model, signs, parting, chance.choice([None, 0, 2])), 40)
            for most in chance.sample([0, max(count - 1, 0), count, count + 1, 60], 5):
                endings[self.check(hall, model, signs, most).ending[0]] = True
        self.assertEqual(sorted(endings), ["cut", "empty", "end", "fault"])

    def test_twice_and_going_on(self):
        for chance, model, signs, parting, ahead in self.cases(33, 40):
            hall = Hall(model, signs, parting, ahead)
            for turn in range(4):
                self.gone_on(chance, hall, 40)
                most = chance.randrange(len(hall.settled()) + 15)
                self.check(hall, model, signs, most)
                before = all_of(hall)
                self.check(hall, model, signs, most)
                self.assertEqual(all_of(hall), before)

    def test_the_hall_is_where_serving_the_floor_leaves_it(self):
        backs = 0
        for chance, model, signs, parting, ahead in self.cases(34, 60):
            hall = Hall(model, signs, parting, ahead)
            slow = SlowHall(model, signs, parting, ahead)
            for turn in range(3):
                for drawn in [chance.randrange(1000) for step in range(chance.randrange(40))]:
                    self.assertEqual(hall.step(drawn), slow.step(drawn))
                most = chance.randrange(len(hall.settled()) + 15)
                before = hall.taken_back()
                self.check(hall, model, signs, most)
                slow.serve_until(most)
                self.assertEqual(all_of(hall), all_of(slow))
                backs += hall.taken_back() - before
        # Or the served letters took nothing back at all.
        self.assertGreater(backs, 20)

    def test_one_machine(self):
        model = chain(20, [("end",)])
        hall = Hall(model, GO, [3], 0)
        for most in (4, 2, 19, 20, 21, 0, 1000):
            self.check(hall, model, GO, most)
        self.assertEqual(hall.outcome(), ("end", (19, 0, 0, 18)))


if __name__ == "__main__":
    unittest.main()
