"""The run by a calendar: whatever calendar it is handed, it tells the plain run's book."""

import copy
import random
import unittest

from momentloom.calendar import Calendar
from momentloom.calrun import by_calendar
from momentloom.model import Model, State
from momentloom.plain import Book, plain
from momentloom.wheel import Wheel

from samples import CUT, EMPTY, GO, chain, keys_of, number, parts_of, send, shop, some_machines, some_signs


class Narrow(Calendar):
    """A calendar of another make: it looks at all keys each time, and at what it is handed."""

    def __init__(self):
        self.kept = []

    def put(self, key, thing):
        if not all(type(part) is int for part in key) or key in [pair[0] for pair in self.kept]:
            raise AssertionError(f"no key, or one that is there: {key}")
        parts = thing if type(thing) is tuple else (thing,)
        if not all(type(part) in (int, str) for part in parts):
            raise AssertionError(f"no whole number, no text and no tuple of these: {thing}")
        self.kept.append((key, thing))

    def size(self):
        return len(self.kept)

    def least(self):
        return min(self.kept)[0] if self.kept else None

    def leave(self):
        if not self.kept:
            return None
        pair = min(self.kept)
        self.kept.remove(pair)
        return pair

    def take_out(self, key):
        for pair in self.kept:
            if pair[0] == key:
                self.kept.remove(pair)
                return pair[1]
        return None


def used(calendar):
    """A calendar that a run went on with, and that was emptied."""
    by_calendar(shop(), [(5000, 0, 0, "open", 0, 0)], 40, calendar)
    if calendar.size() == 0:
        raise AssertionError("nothing was left to empty")
    while calendar.size() > 0:
        calendar.leave()
    return calendar


def taken_out(calendar):
    """A calendar that a run went on with, and from which the rest was taken out by keys."""
    by_calendar(chain(10 ** 9, []), [(3, 0, 0, "go", 0, 0), (10 ** 6, 0, 0, "go", 0, 0)], 70, calendar)
    while calendar.size() > 0:
        calendar.take_out(calendar.least())
    return calendar


MAKERS = [("calendar", Calendar), ("narrow", Narrow), ("used calendar", lambda: used(Calendar())),
          ("calendar taken out", lambda: taken_out(Calendar()))]
for span in (1, 2, 3, 10, 64, 1000):
    MAKERS.append((f"wheel of {span}", lambda span=span: Wheel(span)))
    MAKERS.append((f"used wheel of {span}", lambda span=span: used(Wheel(span))))
    MAKERS.append((f"wheel of {span} taken out", lambda span=span: taken_out(Wheel(span))))


class Same(unittest.TestCase):
    def check(self, model, signs, most):
        """The plain run's book, by each calendar; told so that its ending can be looked at."""
        book = parts_of(plain(model, signs, most))
        for name, make in MAKERS:
            with self.subTest(calendar=name, most=most):
                self.assertEqual(parts_of(by_calendar(model, signs, most, make())), book)
        return book


class Endings(Same):
    def test_end(self):
        for most in (2, 3, 4, 100):
            book = self.check(chain(3, [("end",)]), GO, most)
            self.assertEqual(book[1], CUT if most < 3 else ("end", (2, 0, 0, 1)))

    def test_end_with_something_pending(self):
        for most in (2, 3, 4, 100):
            book = self.check(chain(3, [("end",), send(0, "go", 1)]), GO + [(9, 0, 0, "go", 0, 0)], most)
            self.assertEqual(book[1], CUT if most < 3 else ("end", (2, 0, 0, 1)))
            self.assertEqual(len(book[0]), min(most, 3))

    def test_fault(self):
        for most in (2, 3, 4, 100):
            book = self.check(chain(3, [send(0, "bad", 4, 6)]), GO, most)
            self.assertEqual(book[1], CUT if most < 4 else ("fault", "nought", (6, 6, 0, 2)))
            self.assertEqual(len(book[0]), min(most, 3))

    def test_each_fault(self):
        for deed, word in (
                (("put", "x", ("part", number(1), number(0))), "nought"), (("draw", "x", number(1)), "dry"),
                (("put", "x", ("times", number(10 ** 15), number(2))), "great"), (send(0, "go", 0), "span")):
            model = Model([("a", [("x", 0)], [], [], [("go", [("put", "x", number(4)), deed])])])
            self.assertEqual(self.check(model, GO, 5)[1], ("fault", word, (0, 0, -1, 0)))

    def test_empty(self):
        for most in (3, 4, 5, 1000):
            book = self.check(chain(4, []), GO, most)
            self.assertEqual(book[1], CUT if most < 4 else EMPTY)

    def test_cut(self):
        for most in (1, 2, 7, 50):
            book = self.check(chain(10 ** 9, []), GO, most)
            self.assertEqual((len(book[0]), book[1]), (most, CUT))

    def test_none_let(self):
        for signs in (GO, [(0, 0, 0, "bad", 0, 0)], [(0, 0, 0, "halt", 0, 0)]):
            book = self.check(chain(4, []), signs, 0)
            self.assertEqual(book, ([], CUT, [({"n": 0}, {"q": []}, 0, 0)]))

    def test_no_outside_signs(self):
        for most in (0, 1, 1000):
            self.assertEqual(self.check(chain(4, []), [], most), ([], EMPTY, [({"n": 0}, {"q": []}, 0, 0)]))


class Runs(Same):
    def test_like_times_and_ranks(self):
        senders = [(name, [], [], [], [("go", [send(3, "hear", 5, 2), send(3, "hear", 5, 2)])]) for name in "abc"]
        model = Model(senders + [("d", [("n", 0)], [], [], [
            ("hear", [("put", "n", ("plus", ("box", "n"), number(1)))])])])
        signs = [(0, 2, 2, "go", 0, 0), (0, 2, 1, "go", 0, 0), (0, 2, 0, "go", 0, 0)] + [(5, 2, 3, "hear", 0, 0)] * 3
        for most in range(14):
            self.check(model, signs, most)
        self.assertEqual([record[0] for record in self.check(model, signs, 100)[0]][3:], [
            (5, 2, -1, 3), (5, 2, -1, 4), (5, 2, -1, 5),
            (5, 2, 0, 0), (5, 2, 0, 1), (5, 2, 1, 0), (5, 2, 1, 1), (5, 2, 2, 0), (5, 2, 2, 1)])

    def test_more_than_ten_of_one_sender(self):
        model = Model([("a", [], [], [], [("go", [send(0, "hear", 4)] * 12)])])
        book = self.check(model, GO + [(4, 0, 0, "go", 0, 0)], 100)
        self.assertEqual([record[0] for record in book[0]][2:14], [(4, 0, 0, count) for count in range(12)])

    def test_twenty_signs_and_somewhat_more(self):
        for count in (20, 21, 25):
            signs = [((place * 7) % 9, place % 3, place % 2, "open", place, 0) for place in range(count)]
            self.check(shop(), signs, 60)

    def test_far_times(self):
        hears = [("go", [send(0, "go", 10 ** 6), send(0, "deaf", 999_999, 9), send(0, "deaf", 1)])]
        model = Model([("a", [], [], [], hears)])
        self.check(model, [(10 ** 6, 0, 0, "go", 0, 0), (0, 0, 0, "go", 0, 0), (64, 9, 0, "go", 0, 0)], 200)

    def test_late(self):
        model = Model([("a", [("x", 0)], [], [], [("go", [("put", "x", ("now",)), send(0, "go", 10 ** 6)])])])
        book = self.check(model, [(10 ** 12 - 10 ** 6 - 5, 0, 0, "go", 0, 0)], 100)
        self.assertEqual(book[1], ("fault", "late", (10 ** 12 - 5, 0, 0, 0)))

    def test_the_shop(self):
        signs = [(3, 4, 1, "serve", 0, 0), (0, 0, 0, "open", 0, 0), (3, 4, 1, "come", 2, 0), (6, 0, 0, "deaf", 1, 2)]
        for most in range(30):
            self.check(shop(), signs, most)
        self.assertEqual(self.check(shop(), signs, 1000)[1][0], "end")

    def test_1000_records_and_somewhat_more(self):
        for most in (1000, 1003):
            book = self.check(chain(10 ** 9, [send(0, "go", 1)]), GO, most)
            self.assertEqual((len(book[0]), book[1]), (most, CUT))

    def test_1000_records_with_much_pending(self):
        model = Model([("a", [], [], [], [("go", [send(0, "go", 1 + 13 * step, step % 10) for step in range(20)])])])
        book = plain(model, GO, 1000)
        for make in (Calendar, lambda: Wheel(1), lambda: Wheel(10), lambda: Wheel(1000)):
            self.assertEqual(parts_of(by_calendar(model, GO, 1000, make())), parts_of(book))
        self.assertEqual(len(book.records), 1000)

    def test_many_models(self):
        chance = random.Random(11)
        endings = {}
        for turn in range(60):
            book = self.check(Model(some_machines(chance)), some_signs(chance), 60)
            endings[book[1][0]] = True
        self.assertEqual(sorted(endings), ["cut", "empty", "end", "fault"])


class Apart(unittest.TestCase):
    """The model and the signs stay, and a told book is the asker's own."""

    signs = [(0, 0, 0, "open", 0, 0), (3, 4, 1, "come", 2, 0), (3, 4, 1, "come", 1, 0)]

    def test_kinds(self):
        book = by_calendar(shop(), self.signs, 5, Calendar())
        self.assertIs(type(book), Book)
        self.assertEqual([type(book.records), type(book.ending), type(book.states)], [list, tuple, list])
        self.assertEqual([type(state) for state in book.states], [State, State])
        self.assertEqual([type(record) for record in book.records], [tuple] * 5)

    def test_the_model_and_the_signs_stay(self):
        model = shop()
        for most in (0, 1, 5, 1000):
            signs = list(self.signs)
            by_calendar(model, signs, most, Wheel(10))
            self.assertEqual(signs, self.signs)
            self.assertEqual(model.machines, shop().machines)

    def test_changing_a_told_book_changes_no_later_one(self):
        model = shop()
        calendar = Calendar()
        before = copy.deepcopy(parts_of(plain(model, self.signs, 12)))
        for turn in range(3):
            book = by_calendar(model, self.signs, 12, calendar)
            self.assertEqual(parts_of(book), before)
            for record in book.records:
                for write in record[5]:
                    if isinstance(write[1], list):
                        write[1].append(99)
                record[5].clear()
                record[6].clear()
            for state in book.states:
                state.boxes.clear()
                state.queues.setdefault("line", []).append(98)
            book.records.clear()
            book.states.clear()
            while calendar.size() > 0:
                calendar.leave()
        self.assertEqual(model.machines, shop().machines)

    def test_records_and_states_share_no_list(self):
        book = by_calendar(shop(), self.signs, 40, Calendar())
        lists = [queue for state in book.states for queue in state.queues.values()]
        for record in book.records:
            lists.extend([record[5], record[6]] + [write[1] for write in record[5] if isinstance(write[1], list)])
        self.assertEqual(len({id(found) for found in lists}), len(lists))

    def test_what_is_done_with_the_signs_and_the_calendar_behind_the_call(self):
        signs = list(self.signs)
        calendar = Wheel(2)
        book = by_calendar(shop(), signs, 12, calendar)
        signs.clear()
        while calendar.size() > 0:
            calendar.leave()
        by_calendar(shop(), self.signs, 3, calendar)
        self.assertEqual(parts_of(book), parts_of(plain(shop(), self.signs, 12)))

    def test_two_runs_with_calendars_of_their_own(self):
        first = by_calendar(shop(), self.signs, 9, Calendar())
        second = by_calendar(shop(), self.signs, 9, Calendar())
        self.assertEqual(keys_of(first), keys_of(second))
        self.assertEqual(parts_of(first), parts_of(second))


if __name__ == "__main__":
    unittest.main()
