"""Whether places show a worth: the reasons of a box do, and so do others that stand by themselves, and no more."""

import copy
import random
import unittest

from momentloom.lookers import shows
from momentloom.model import Model
from momentloom.plain import plain
from momentloom.reasons import reasons

from samples import (
    NOUGHT, changed_records, changes, lively_machines, lively_signs, number, send, shop, some_machines, some_signs)
from slowreasons import slow_shows

SHOP = [(0, 0, 0, "open", 0, 0), (3, 4, 1, "come", 2, 0), (3, 4, 1, "come", 1, 0), (2, 0, 1, "serve", 0, 0)]


def bank():
    """Box x goes by itself; y goes by x and what came with a sign; the sign "ask" has machine 1 send its box to y."""
    return Model([
        ("m", [("x", 1), ("y", 2)], [], [], [
            ("set", [("put", "x", ("got", 0))]), ("add", [("put", "y", ("plus", ("box", "x"), ("got", 0)))]),
            ("cut", [("put", "y", ("part", ("got", 0), ("less", ("box", "x"), number(1))))]), ("rest", [])]),
        ("n", [("x", 5)], [], [], [
            ("ask", [("send", 0, "add", number(2), 0, ("box", "x"), number(0))]),
            ("set", [("put", "x", ("got", 0))])])])


# By places: 0 set x 8, 1 rest, 2 set n's x 30, 3 ask, 4 set x 9, 5 add 30, 6 set x 4.
DAY = [
    (0, 0, 0, "set", 8, 0), (1, 0, 0, "rest", 0, 0), (2, 0, 1, "set", 30, 0), (3, 0, 1, "ask", 0, 0),
    (4, 0, 0, "set", 9, 0), (6, 0, 0, "set", 4, 0)]


class Showing(unittest.TestCase):
    def setUp(self):
        self.model = bank()
        self.signs = list(DAY)
        self.records = plain(bank(), DAY, 100).records
        self.assertEqual(
            [record[2] for record in self.records], ["set", "rest", "set", "ask", "set", "add", "set"])

    def shown(self, places, worth, k=7, at=0, box="y"):
        told = shows(self.model, self.signs, self.records, k, at, box, worth, places)
        self.assertIs(told, slow_shows(self.model, self.signs, self.records, k, at, box, worth, places))
        return told


class Places(Showing):
    def test_reasons_with_the_worth_that_is_due_and_with_another(self):
        self.assertEqual(reasons(bank(), self.records, 7, 0, "y"), [2, 3, 4, 5])
        self.assertIs(self.shown([2, 3, 4, 5], 39), True)
        for worth in (38, 40, 0, -39, 2, 10 ** 15):
            self.assertIs(self.shown([2, 3, 4, 5], worth), False)

    def test_others_beside_them(self):
        for more in ([0], [1], [0, 1], [6], [0, 1, 6]):
            self.assertTrue(self.shown(sorted([2, 3, 4, 5] + more), 39))
        self.assertTrue(self.shown(list(range(7)), 39))

    def test_places_that_do_not_rise_strictly(self):
        for places in ([2, 3, 3, 4, 5], [2, 2, 3, 4, 5], [2, 3, 4, 5, 5], [3, 2, 4, 5], [2, 3, 5, 4], [5, 4, 3, 2]):
            self.assertIs(self.shown(places, 39), False)
        # What stands in them would do in this order too.
        self.assertIs(self.shown([4, 2, 3, 5], 39), False)
        self.assertIs(self.shown([2, 3, 4, 5, 0], 39), False)

    def test_places_below_0(self):
        for places in ([-1, 2, 3, 4, 5], [-7, 2, 3, 4, 5], [-5, -4, -3, -2], [-100, 2, 3, 4, 5]):
            self.assertIs(self.shown(places, 39), False)
        self.assertIs(self.shown([-1], 1, k=0, box="x"), False)

    def test_places_not_below_k(self):
        self.assertIs(self.shown([2, 3, 4, 5], 39, k=6), True)
        self.assertIs(self.shown([2, 3, 4, 5, 6], 39, k=6), False)
        self.assertIs(self.shown([2, 3, 4, 5], 39, k=5), False)
        self.assertIs(self.shown([2, 3, 4, 5, 7], 39), False)
        self.assertIs(self.shown([2, 3, 4, 5, 1000], 39), False)
        self.assertIs(self.shown([0], 8, k=1, box="x"), True)
        self.assertIs(self.shown([0], 8, k=0, box="x"), False)

    def test_beyond_the_records(self):
        # Somewhat beyond what may be asked, and so not refused.
        self.assertIs(shows(bank(), DAY, self.records, 9, 0, "y", 39, [2, 3, 4, 5]), True)
        self.assertIs(shows(bank(), DAY, self.records, 9, 0, "y", 39, [2, 3, 4, 5, 7]), False)
        self.assertIs(shows(bank(), DAY, self.records, -1, 0, "y", 2, []), True)
        self.assertIs(shows(bank(), DAY, self.records, -1, 0, "y", 39, [2, 3, 4, 5]), False)

    def test_no_places_at_all(self):
        self.assertIs(self.shown([], 2, k=5), True)
        self.assertIs(self.shown([], 3, k=5), False)
        # Behind 6 records it was written.
        self.assertIs(self.shown([], 2, k=6), False)
        self.assertIs(self.shown([], 39, k=6), False)
        self.assertIs(self.shown([], 1, k=0, box="x"), True)
        self.assertIs(self.shown([], 1, k=1, box="x"), False)
        self.assertIs(shows(bank(), [], [], 0, 1, "x", 5, []), True)
        self.assertIs(shows(bank(), [], [], 0, 1, "x", 6, []), False)

    def test_places_for_a_box_that_none_wrote(self):
        self.assertIs(self.shown([0, 1], 2, k=5), True)
        self.assertIs(self.shown([0, 1], 8, k=5), False)
        self.assertIs(self.shown([2, 3], 2, k=5), True)


class LastWriting(Showing):
    def test_missing(self):
        # Place 4 sets x to 9, and place 6 to 4.
        self.assertIs(self.shown([4], 9, k=6, box="x"), True)
        self.assertIs(self.shown([4], 9, k=7, box="x"), False)
        self.assertIs(self.shown([6], 4, k=7, box="x"), True)
        self.assertIs(self.shown([4, 6], 4, k=7, box="x"), True)
        self.assertIs(self.shown([0], 8, k=4, box="x"), True)
        self.assertIs(self.shown([0], 8, k=5, box="x"), False)
        self.assertIs(self.shown([2, 3, 4], 2), False)

    def test_missing_though_the_worth_would_be_right(self):
        self.signs = [(0, 0, 0, "set", 8, 0), (1, 0, 0, "set", 1, 0), (2, 0, 0, "set", 8, 0)]
        self.records = plain(bank(), self.signs, 9).records
        self.assertIs(self.shown([0], 8, k=3, box="x"), False)
        self.assertIs(self.shown([2], 8, k=3, box="x"), True)
        self.assertIs(self.shown([], 1, k=2, box="x"), False)
        self.assertIs(self.shown([1], 1, k=2, box="x"), True)

    def test_another_machines_box_of_the_same_name(self):
        self.assertIs(self.shown([0], 8, k=3, box="x"), True)
        self.assertIs(self.shown([2], 30, k=7, at=1, box="x"), True)
        self.assertIs(self.shown([], 5, k=2, at=1, box="x"), True)
        self.assertIs(self.shown([0, 6], 5, k=7, at=1, box="x"), False)

    def test_any_record_counts_that_tells_it(self):
        # The last one is made up, but tells that it wrote the box; so it must be there, and then is found out.
        self.records.append(((9, 0, -1, 9), 0, "set", 7, 0, [("y", 7)], []))
        self.assertIs(self.shown([2, 3, 4, 5], 39, k=7), True)
        self.assertIs(self.shown([2, 3, 4, 5], 39, k=8), False)
        self.assertIs(self.shown([2, 3, 4, 5, 7], 39, k=8), False)
        self.assertIs(self.shown([2, 3, 4, 5, 7], 7, k=8), False)
        self.assertIs(self.shown([6], 4, k=8, box="x"), True)
        # Another machine's, or one that wrote something else, need not.
        self.records[7] = ((9, 0, -1, 9), 1, "set", 7, 0, [("y", 7)], [])
        self.assertIs(self.shown([2, 3, 4, 5], 39, k=8), True)
        self.records[7] = ((9, 0, -1, 9), 99, "set", 7, 0, [("y", 7)], [])
        self.assertIs(self.shown([2, 3, 4, 5], 39, k=8), True)
        self.records[7] = ((9, 0, -1, 9), 0, "y", 7, 0, [("z", 7)], [((9, 9, 9, 9), 0, "y", 1, 1)])
        self.assertIs(self.shown([2, 3, 4, 5], 39, k=8), True)


class Origins(Showing):
    def test_not_sent_by_an_earlier_place_and_no_outside_sign(self):
        self.assertIs(self.shown([2, 4, 5], 39), False)
        self.assertIs(self.shown([4, 5], 39), False)
        # The ask without the set sends another worth than its record tells.
        self.assertIs(self.shown([3, 4, 5], 39), False)

    def test_one_that_a_later_place_sends(self):
        self.records = self.records[:3] + [self.records[4], self.records[5], self.records[3]]
        self.assertIs(self.shown([2, 3, 4, 5], 39, k=6), False)

    def test_outside_signs_are_those_of_the_list_in_their_places(self):
        self.assertIs(self.shown([6], 4, box="x"), True)
        self.signs = DAY[:5]
        self.assertIs(self.shown([6], 4, box="x"), False)
        self.signs = DAY[1:]
        self.assertIs(self.shown([6], 4, box="x"), False)
        self.signs = DAY[:4] + [(50, 0, 0, "rest", 0, 0)] + DAY[5:]
        self.assertIs(self.shown([6], 4, box="x"), True)
        self.assertIs(self.shown([4], 9, k=6, box="x"), False)
        self.signs = DAY[:5] + [(6, 0, 0, "set", 4, 1)]
        self.assertIs(self.shown([6], 4, box="x"), False)

    def test_an_outside_sign_done_twice(self):
        self.records = [self.records[0], self.records[0], self.records[1]]
        self.assertIs(self.shown([0, 1], 8, k=3, box="x"), True)
        self.assertIs(self.shown([1], 8, k=3, box="x"), True)
        self.assertIs(self.shown([0], 8, k=3, box="x"), False)

    def test_done_twice_it_must_tell_what_it_does_the_second_time(self):
        count = Model([("m", [("n", 0)], [], [], [
            ("go", [("put", "n", ("plus", ("box", "n"), number(1))), send(0, "far", 3)]), ("far", [])])])
        happening = ((0, 0, -1, 0), 0, "go", 0, 0)
        self.model = count
        self.signs = [(0, 0, 0, "go", 0, 0)]
        first = happening + ([("n", 1)], [((3, 0, 0, 0), 0, "far", 0, 0)])
        again = happening + ([("n", 2)], [((3, 0, 0, 1), 0, "far", 0, 0)])
        self.records = [first, again, first]
        self.assertIs(self.shown([0, 1], 2, k=2, box="n"), True)
        self.assertIs(self.shown([1], 2, k=2, box="n"), False)
        self.assertIs(self.shown([0, 2], 1, k=3, box="n"), False)
        self.assertIs(self.shown([2], 1, k=3, box="n"), True)

    def test_a_sent_one_done_twice(self):
        # Nothing that it reads was changed by doing it the first time.
        self.records = self.records[:6] + [self.records[5]]
        self.assertIs(self.shown([2, 3, 4, 5, 6], 39), True)
        self.assertIs(self.shown([2, 3, 4, 6], 39), True)
        self.assertIs(self.shown([2, 3, 4, 5], 39), False)

    def test_an_order_that_no_run_has(self):
        # By their keys the first comes behind the second, but each does alone what its record tells.
        self.records = [self.records[6], self.records[0]]
        self.assertIs(self.shown([0, 1], 8, k=2, box="x"), True)
        self.assertIs(self.shown([0], 4, k=1, box="x"), True)


class Doing(Showing):
    def test_a_fault(self):
        self.signs = [(0, 0, 0, "set", 3, 0), (1, 0, 0, "cut", 8, 0)]
        self.records = plain(bank(), self.signs, 9).records
        self.assertEqual(self.records[1][5], [("y", 4)])
        self.assertIs(self.shown([0, 1], 4, k=2), True)
        # Without the first the second divides by 0.
        for worth in (4, 2, 0):
            self.assertIs(self.shown([1], worth, k=2), False)

    def test_a_fault_changes_nothing_but_is_none_of_what_is_asked(self):
        self.model = Model([("m", [("x", 1)], [], [], [("bad", [("put", "x", NOUGHT)])])])
        self.signs = [(0, 0, 0, "bad", 0, 0)]
        self.records = [((0, 0, -1, 0), 0, "bad", 0, 0, [], [])]
        self.assertIs(self.shown([0], 1, k=1, box="x"), False)
        self.assertIs(self.shown([], 1, k=1, box="x"), True)

    def test_each_fault(self):
        for deeds in (
                [("push", "q", number(1))] * 31, [("draw", "x", number(3))], [send(0, "go", 0)],
                [("put", "x", ("times", number(10 ** 15), number(2)))]):
            self.model = Model([("m", [("x", 1)], ["q"], [], [("bad", deeds)])])
            self.signs = [(0, 0, 0, "bad", 0, 0)]
            self.records = [((0, 0, -1, 0), 0, "bad", 0, 0, [], [])]
            self.assertIs(self.shown([0], 1, k=1, box="x"), False)

    def test_behind_an_end(self):
        # An end ends a run, but places are done alone.
        self.model = Model([("m", [("x", 1)], [], [], [
            ("end", [("end",), ("put", "x", number(3))]), ("set", [("put", "x", ("got", 0))])])])
        self.signs = [(0, 0, 0, "end", 0, 0), (1, 0, 0, "set", 7, 0)]
        self.records = [
            ((0, 0, -1, 0), 0, "end", 0, 0, [("x", 3)], []), ((1, 0, -1, 1), 0, "set", 7, 0, [("x", 7)], [])]
        self.assertIs(self.shown([0, 1], 7, k=2, box="x"), True)
        self.assertIs(self.shown([0], 3, k=1, box="x"), True)

    def test_a_record_with_something_changed(self):
        kept = list(self.records)
        for place in (2, 3, 4, 5):
            for record in changed_records(kept[place]):
                self.records = kept[:place] + [record] + kept[place + 1:]
                self.assertIs(self.shown([2, 3, 4, 5], 39), False, record)

    def test_a_change_in_what_is_not_looked_at(self):
        kept = list(self.records)
        for place in (0, 1, 6):
            for record in changes(kept[place][:5]):
                self.records = kept[:place] + [record + ([("none", [4])], [])] + kept[place + 1:]
                self.assertIs(self.shown([2, 3, 4, 5], 39), True, record)

    def test_writes_more_or_less_than_told(self):
        record = self.records[6]
        self.records[6] = record[:5] + ([], [])
        self.assertIs(self.shown([4, 6], 4, box="x"), False)
        self.records[6] = record[:5] + (record[5] + [("y", 2)], [])
        self.assertIs(self.shown([6], 4, box="x"), False)
        self.records[6] = record[:5] + (record[5], [((9, 0, 0, 0), 0, "set", 1, 1)])
        self.assertIs(self.shown([6], 4, box="x"), False)


class AsTold(unittest.TestCase):
    def boxes(self, model, signs, k):
        """Each box, by (machine, name), with its worth behind k records."""
        states = plain(model, signs, k).states
        return [(at, box, worth) for at, state in enumerate(states) for box, worth in state.boxes.items()]

    def check_reasons(self, model, signs, most):
        records = plain(model, signs, most).records
        for k in sorted({0, len(records) // 2, len(records)}):
            union = set()
            for at, box, worth in self.boxes(model, signs, k):
                places = reasons(model, records, k, at, box)
                union.update(places)
                self.assertIs(shows(model, signs, records, k, at, box, worth, places), True)
                self.assertIs(shows(model, signs, records, k, at, box, worth + 1, places), False)
                self.assertIs(shows(model, signs, records, k, at, box, worth, list(range(k))), True)
                if places:
                    self.assertIs(shows(model, signs, records, k, at, box, worth, places[:-1]), False)
            for at, box, worth in self.boxes(model, signs, k):
                self.assertIs(shows(model, signs, records, k, at, box, worth, sorted(union)), True)

    def check_some(self, chance, model, signs, most):
        """Places by chance, with records some of which are changed."""
        records = plain(model, signs, most).records
        found = []
        for turn in range(20):
            k = chance.randrange(len(records) + 1)
            at, box, worth = chance.choice(self.boxes(model, signs, k))
            places = [place for place in range(k) if chance.random() < 0.9]
            if chance.random() < 0.5:
                places = sorted(set(places[:3] + reasons(model, records, k, at, box)))
            if chance.random() < 0.2:
                places.insert(chance.randrange(len(places) + 1), chance.randrange(-2, len(records) + 2))
            tried = list(records)
            if records and chance.random() < 0.3:
                place = chance.randrange(len(records))
                tried[place] = chance.choice(changed_records(records[place]))
            told = shows(model, signs, tried, k, at, box, worth, places)
            self.assertIs(told, slow_shows(model, signs, tried, k, at, box, worth, places))
            found.append(told)
        return found

    def test_the_shop(self):
        for most in (5, 17, 30):
            self.check_reasons(shop(), SHOP, most)

    def test_many_models(self):
        chance = random.Random(23)
        found = []
        for turn in range(120):
            model = Model(some_machines(chance))
            signs = some_signs(chance)
            self.check_reasons(model, signs, 20)
            found.extend(self.check_some(chance, model, signs, 12))
        self.assertGreater(found.count(True), 100)
        self.assertGreater(found.count(False), 100)

    def test_lively_models(self):
        chance = random.Random(231)
        found = []
        for turn in range(25):
            count = chance.randrange(1, 5)
            model = Model(lively_machines(chance, count))
            signs = lively_signs(chance, count)
            self.check_reasons(model, signs, 40)
            found.extend(self.check_some(chance, model, signs, 15))
        self.assertGreater(found.count(True), 20)
        self.assertGreater(found.count(False), 20)

    def test_1000_records(self):
        model = Model([("m", [("x", 0)], [], [], [("go", [
            ("put", "x", ("plus", ("box", "x"), number(1))), send(0, "go", 1)])])])
        signs = [(0, 0, 0, "go", 0, 0)]
        records = plain(model, signs, 1000).records
        self.assertIs(shows(model, signs, records, 1000, 0, "x", 1000, list(range(1000))), True)
        self.assertIs(shows(model, signs, records, 1000, 0, "x", 1000, list(range(1, 1000))), False)
        self.assertIs(shows(model, signs, records, 999, 0, "x", 999, list(range(999))), True)


class Apart(Showing):
    def test_what_is_handed_in_stays(self):
        before = copy.deepcopy(self.records)
        places = [2, 3, 4, 5]
        self.assertTrue(self.shown(places, 39))
        self.assertFalse(self.shown(places, 38))
        self.assertFalse(self.shown([5, 4], 38))
        self.assertEqual((self.records, self.signs, places), (before, DAY, [2, 3, 4, 5]))
        self.assertEqual(self.model.machines, bank().machines)


if __name__ == "__main__":
    unittest.main()
