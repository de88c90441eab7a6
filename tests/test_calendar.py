"""Calendars, and wheels of several spans: each test here is held to all of them."""

import unittest

from momentloom.calendar import Calendar
from momentloom.wheel import Wheel

MAKERS = (
    ("calendar", Calendar), ("wheel of 1", lambda: Wheel(1)), ("wheel of 2", lambda: Wheel(2)),
    ("wheel of 10", lambda: Wheel(10)), ("wheel of 1000", lambda: Wheel(1000)))


def at(time, rank=0, sender=-1, count=0):
    return (time, rank, sender, count)


def drained(calendar):
    """All that is in it, as it leaves; least and size must go with it."""
    found = []
    while calendar.size() > 0:
        size = calendar.size()
        least = calendar.least()
        found.append(calendar.leave())
        if found[-1][0] != least or calendar.size() != size - 1:
            raise AssertionError(f"least told {least}, and {found[-1]} left; size {size}, then {calendar.size()}")
    return found


class EachSort(unittest.TestCase):
    def for_each(self, check):
        for name, make in MAKERS:
            with self.subTest(sort=name):
                check(make)

    def check_order(self, keys):
        """Put in several orders, the keys leave as they are ordered."""
        def check(make):
            for order in (keys, sorted(keys), sorted(keys, reverse=True), keys[1::2] + keys[::2]):
                calendar = make()
                for place, key in enumerate(order):
                    calendar.put(key, place)
                    self.assertEqual(calendar.least(), min(order[:place + 1]))
                    self.assertEqual(calendar.size(), place + 1)
                self.assertEqual(drained(calendar), [(key, order.index(key)) for key in sorted(keys)])
                self.check_empty(calendar)
        self.for_each(check)

    def check_empty(self, calendar):
        self.assertEqual(calendar.size(), 0)
        self.assertIsNone(calendar.least())
        self.assertIsNone(calendar.leave())
        self.assertIsNone(calendar.take_out(at(0)))
        self.assertEqual(calendar.size(), 0)


class Empty(EachSort):
    def test_empty_at_first(self):
        self.for_each(lambda make: self.check_empty(make()))

    def test_empty_behind_leaving(self):
        def check(make):
            calendar = make()
            calendar.put(at(7), "a")
            self.assertEqual(calendar.leave(), (at(7), "a"))
            self.check_empty(calendar)
            calendar.put(at(3), "b")
            self.assertEqual(calendar.leave(), (at(3), "b"))
            self.check_empty(calendar)
        self.for_each(check)

    def test_empty_behind_taking_out(self):
        def check(make):
            calendar = make()
            calendar.put(at(7), "a")
            self.assertEqual(calendar.take_out(at(7)), "a")
            self.check_empty(calendar)
            self.assertIsNone(calendar.take_out(at(7)))
            calendar.put(at(9), "b")
            self.assertEqual(calendar.least(), at(9))
        self.for_each(check)


class Things(EachSort):
    things = (
        0, 1, -5, 10 ** 20, "", "a", "two words", (), (0,), ("",), ((), 1, "x", (2, ("y",))), (at(3), 1, "go", 0, 0))

    def test_each_is_told_as_it_leaves(self):
        def check(make):
            for thing in self.things:
                calendar = make()
                calendar.put(at(5), thing)
                self.assertEqual(calendar.size(), 1)
                self.assertEqual(calendar.leave(), (at(5), thing))
                self.check_empty(calendar)
        self.for_each(check)

    def test_each_is_told_as_it_is_taken_out(self):
        def check(make):
            for thing in self.things:
                calendar = make()
                calendar.put(at(5), thing)
                told = calendar.take_out(at(5))
                self.assertEqual(told, thing)
                self.assertIs(type(told), type(thing))
                self.check_empty(calendar)
        self.for_each(check)

    def test_things_of_unlike_kinds_beside_one_another(self):
        def check(make):
            calendar = make()
            for place, thing in enumerate(self.things):
                calendar.put(at(0, 0, 0, place), thing)
            self.assertEqual([pair[1] for pair in drained(calendar)], list(self.things))
        self.for_each(check)

    def test_like_things_by_unlike_keys(self):
        def check(make):
            calendar = make()
            for time in (3, 1, 2):
                calendar.put(at(time), 0)
            self.assertEqual(calendar.take_out(at(2)), 0)
            self.assertEqual(drained(calendar), [(at(1), 0), (at(3), 0)])
        self.for_each(check)

    def test_kinds(self):
        def check(make):
            calendar = make()
            calendar.put(at(5), "a")
            self.assertIs(type(calendar.size()), int)
            self.assertIs(type(calendar.least()), tuple)
            self.assertIs(type(calendar.leave()), tuple)
        self.for_each(check)


class Order(EachSort):
    def test_times_near_one_another(self):
        self.check_order([at(time) for time in (5, 3, 4, 9, 0, 1, 2, 8, 7, 6)])
        self.check_order([at((time * 37) % 101) for time in range(101)])

    def test_times_far_apart(self):
        self.check_order([at(time) for time in (10 ** 12, 0, 10 ** 6, 5, 10 ** 9, 999, 1000, 10 ** 12 - 1, 10 ** 15)])

    def test_times_a_turn_or_so_apart(self):
        for span in (1, 2, 10, 1000):
            for slots in (63, 64, 65, 127, 128, 129):
                self.check_order([at(span * slots * step + more) for step in (3, 0, 2, 1) for more in (1, 0, -1)])

    def test_times_below_0(self):
        self.check_order([at(time) for time in (-1, 0, 1, -2, -1000, -999, -1001, -(10 ** 12), 10 ** 12, -64, -65)])

    def test_ranks_senders_and_counts(self):
        self.check_order([
            (time, rank, sender, count)
            for time in (7, 6) for rank in (9, 0, 1) for sender in (2, -1, 0) for count in (10, 9, 0)])

    def test_first_numbers_go_first(self):
        self.check_order([(1, 9, 5, 999), (2, 0, -1, 0), (1, 0, 5, 999), (1, 0, -1, 0), (1, 9, -1, 0)])

    def test_asking_changes_nothing(self):
        def check(make):
            calendar = make()
            for time in (400, 2 * 10 ** 6):
                calendar.put(at(time), time)
            for turn in range(3):
                self.assertEqual((calendar.least(), calendar.size()), (at(400), 2))
            calendar.leave()
            for turn in range(3):
                self.assertEqual((calendar.least(), calendar.size()), (at(2 * 10 ** 6), 1))
        self.for_each(check)


class ComingAndGoing(EachSort):
    def test_below_what_has_left_already(self):
        def check(make):
            calendar = make()
            calendar.put(at(5000), "a")
            calendar.put(at(9000), "b")
            self.assertEqual(calendar.leave(), (at(5000), "a"))
            for time in (4999, 5001, 10, -7, 8999):
                calendar.put(at(time), time)
            self.assertEqual([pair[0][0] for pair in drained(calendar)], [-7, 10, 4999, 5001, 8999, 9000])
        self.for_each(check)

    def test_below_what_was_told_as_least(self):
        def check(make):
            calendar = make()
            for time in (10 ** 6, 10 ** 3, 10, 0, -10, -(10 ** 3), -(10 ** 6)):
                calendar.put(at(time), time)
                self.assertEqual(calendar.least(), at(time))
        self.for_each(check)

    def test_below_when_all_have_left(self):
        def check(make):
            calendar = make()
            for time in (10 ** 6, 3, 500, -40, 10 ** 9, 0):
                calendar.put(at(time), time)
                self.assertEqual(calendar.leave(), (at(time), time))
            self.check_empty(calendar)
        self.for_each(check)

    def test_a_key_anew_behind_its_leaving(self):
        def check(make):
            calendar = make()
            calendar.put(at(9), "other")
            for thing in ("a", "b", ""):
                calendar.put(at(5), thing)
                self.assertEqual(calendar.size(), 2)
                self.assertEqual(calendar.leave(), (at(5), thing))
                self.assertIsNone(calendar.take_out(at(5)))
            self.assertEqual(drained(calendar), [(at(9), "other")])
        self.for_each(check)

    def test_a_key_anew_behind_its_being_taken_out(self):
        def check(make):
            calendar = make()
            calendar.put(at(2), "other")
            for thing in ("a", "b", 0):
                calendar.put(at(5), thing)
                self.assertEqual(calendar.size(), 2)
                self.assertEqual(calendar.take_out(at(5)), thing)
                self.assertIsNone(calendar.take_out(at(5)))
            calendar.put(at(5), "c")
            self.assertEqual(drained(calendar), [(at(2), "other"), (at(5), "c")])
        self.for_each(check)

    def test_a_key_that_is_not_there(self):
        def check(make):
            calendar = make()
            keys = [(5, 1, 2, 3), (5, 1, 2, 5), (7, 0, 0, 0)]
            for key in keys:
                calendar.put(key, "x")
            for key in (
                    (5, 1, 2, 4), (5, 1, 2, 2), (5, 1, 3, 3), (4, 0, 0, 0), (6, 0, 0, 0), (8, 0, 0, 0), (-9, 0, 0, 0),
                    (5 + 64, 1, 2, 3), (5 + 640, 1, 2, 3), (5 + 64000, 1, 2, 3), (10 ** 12, 0, 0, 0)):
                self.assertIsNone(calendar.take_out(key))
                self.assertEqual((calendar.size(), calendar.least()), (3, keys[0]))
            self.assertEqual([pair[0] for pair in drained(calendar)], keys)
        self.for_each(check)

    def test_taking_out_each_of_several(self):
        keys = [at(0), at(0, 1), at(3), at(64), at(65), at(700), at(64000), at(10 ** 9)]
        def check(make):
            for gone in keys:
                calendar = make()
                for key in keys:
                    calendar.put(key, key)
                self.assertEqual(calendar.take_out(gone), gone)
                self.assertEqual(calendar.size(), len(keys) - 1)
                self.assertEqual(drained(calendar), [(key, key) for key in keys if key != gone])
        self.for_each(check)

    def test_two_beside_one_another(self):
        def check(make):
            first = make()
            second = make()
            first.put(at(1), "a")
            self.check_empty(second)
            second.put(at(1), "b")
            second.put(at(0), "c")
            self.assertEqual((first.size(), second.size()), (1, 2))
            self.assertEqual(first.least(), at(1))
            self.assertEqual(second.take_out(at(1)), "b")
            self.assertEqual(first.leave(), (at(1), "a"))
            self.assertEqual(second.leave(), (at(0), "c"))
        self.for_each(check)

    def test_what_is_told_by_put_is_nothing(self):
        self.for_each(lambda make: self.assertIsNone(make().put(at(1), "a")))


if __name__ == "__main__":
    unittest.main()
