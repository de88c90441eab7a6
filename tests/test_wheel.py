"""Over long rows of deeds wheels tell just what a calendar tells, and it just what a search of all keys tells."""

import random
import unittest

from momentloom.calendar import Calendar
from momentloom.wheel import Wheel

SPANS = (1, 2, 10, 1000)


class Slow:
    """A calendar that looks at all keys each time."""

    def __init__(self):
        self.things = {}

    def put(self, key, thing):
        self.things[key] = thing

    def size(self):
        return len(self.things)

    def least(self):
        return min(self.things, default=None)

    def leave(self):
        return (min(self.things), self.things.pop(min(self.things))) if self.things else None

    def take_out(self, key):
        return self.things.pop(key, None)


def times_near(chance, last):
    return last + chance.randrange(0, 20)


def times_far(chance, last):
    return last + 10 ** chance.randrange(13)


def times_below_0(chance, last):
    return chance.randrange(-(10 ** chance.randrange(1, 7)), 10)


def times_anywhere(chance, last):
    return chance.randrange(-(10 ** 12), 10 ** 12)


def times_below_what_left(chance, last):
    return last + chance.randrange(-5000, 3000)


def times_by_turns(chance, last):
    return last + 64 * chance.choice(SPANS) * chance.randrange(-2, 4) + chance.randrange(-1, 2)


def times_mixed(chance, last):
    return chance.choice(TIMES[:-1])(chance, last)


TIMES = (times_near, times_far, times_below_0, times_anywhere, times_below_what_left, times_by_turns, times_mixed)
KINDS = ["put"] * 50 + ["leave"] * 30 + ["take_out", "absent", "anew"] * 7 + ["clear"]
THINGS = (0, "", (), 7, "seven", (7, "seven", (0,)))


def do(calendar, deed):
    return getattr(calendar, deed[0])(*deed[1:])


class Row:
    """A long row of deeds, and what each of them tells where all keys are looked at."""

    def __init__(self, seed, times, count):
        self.chance = random.Random(seed)
        self.times = times
        self.slow = Slow()
        self.last = 0
        self.gone = [(0, 0, 0, 0)]
        self.deeds = []
        self.told = []
        while len(self.deeds) < count:
            self.go_on(self.chance.choice(KINDS))

    def go_on(self, kind):
        if kind == "put":
            self.put((self.times(self.chance, self.last),) + tuple(self.chance.randrange(3) for number in range(3)))
        elif kind == "anew":
            self.put(self.chance.choice(self.gone[-5:]))
        elif kind == "take_out" and self.slow.things:
            self.go(("take_out", self.chance.choice(list(self.slow.things))))
        elif kind == "absent":
            # Mostly a key that was there, and now and then one that has come again.
            self.go(("take_out", self.chance.choice(self.gone[-5:])))
        else:
            for place in range(self.slow.size() + 1 if kind == "clear" else 1):
                self.go(("leave",))

    def put(self, key):
        if key not in self.slow.things:
            self.go(("put", key, self.chance.choice(THINGS)))

    def go(self, deed):
        answer = do(self.slow, deed)
        self.deeds.append(deed)
        self.told.append((answer, self.slow.size(), self.slow.least()))
        if deed[0] == "take_out":
            self.gone.append(deed[1])
        elif deed[0] == "leave" and answer is not None:
            self.gone.append(answer[0])
            self.last = answer[0][0]


class LongRows(unittest.TestCase):
    def check(self, make):
        for seed, times in enumerate(TIMES):
            for count in (60, 60, 2000):
                row = Row(seed + count, times, count)
                with self.subTest(times=times.__name__, count=count):
                    calendar = make()
                    told = [(do(calendar, deed), calendar.size(), calendar.least()) for deed in row.deeds]
                    self.assertEqual(told, row.told)
                    # Asking for the least key must not be needed for the next answer.
                    calendar = make()
                    self.assertEqual([do(calendar, deed) for deed in row.deeds], [answer[0] for answer in row.told])

    def test_calendar(self):
        self.check(Calendar)

    def test_wheels(self):
        for span in SPANS:
            with self.subTest(span=span):
                self.check(lambda: Wheel(span))

    def test_other_spans(self):
        for span in (3, 7, 64, 999):
            with self.subTest(span=span):
                self.check(lambda: Wheel(span))

    def test_the_rows_hold_what_they_are_to_hold(self):
        row = Row(5, times_mixed, 2000)
        kinds = [deed[0] for deed in row.deeds]
        self.assertTrue(all(kinds.count(kind) > 100 for kind in ("put", "leave", "take_out")))
        keys = [deed[1] for deed in row.deeds if deed[0] == "put"]
        self.assertLess(len(set(keys)), len(keys))
        self.assertTrue(any(key[0] < 0 for key in keys))
        self.assertIn((None, 0, None), row.told)
        self.assertGreater(max(answer[1] for answer in row.told), 30)


class Under(unittest.TestCase):
    def test_a_wheel_is_a_calendar(self):
        self.assertEqual(Wheel.__bases__, (Calendar,))
        for span in SPANS:
            self.assertIsInstance(Wheel(span), Calendar)

    def test_spans_somewhat_beyond_are_not_refused(self):
        for span in (0, -1, 1001, 5000):
            wheel = Wheel(span)
            for time in (5, -3, 10 ** 9, 700):
                wheel.put((time, 0, 0, 0), time)
            self.assertEqual([wheel.leave()[1] for place in range(4)], [-3, 5, 700, 10 ** 9])

    def test_wheels_of_unlike_spans_beside_one_another(self):
        wheels = [Wheel(span) for span in SPANS]
        for place, wheel in enumerate(wheels):
            wheel.put((100 - place, 0, 0, 0), place)
        self.assertEqual([wheel.size() for wheel in wheels], [1, 1, 1, 1])
        self.assertEqual([wheel.leave() for wheel in wheels], [((100 - place, 0, 0, 0), place) for place in range(4)])


if __name__ == "__main__":
    unittest.main()
