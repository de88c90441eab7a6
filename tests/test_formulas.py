"""Formulas: each sort, their order of reckoning, and the faults nought and great."""

import unittest

from momentloom.errors import Fault, Great, Nought
from momentloom.formulas import worth_of
from momentloom.model import State

GREATEST = 10 ** 15
NOUGHT = ("part", ("number", 1), ("number", 0))
GREAT = ("plus", ("number", GREATEST), ("number", 1))


def some_state():
    return State({"x": 7, "y": -3, "big": GREATEST}, {"q": [4, 4, 4], "r": []}, 2, 5)


def number(worth):
    return ("number", worth)


def reckon(formula, now=40, got=(8, -9)):
    return worth_of(formula, some_state(), now, list(got))


def of_two(kind, first, second):
    return reckon((kind, number(first), number(second)))


class Reckoning(unittest.TestCase):
    def check(self, formula, worth):
        with self.subTest(formula=formula):
            answer = reckon(formula)
            self.assertEqual(answer, worth)
            self.assertIs(type(answer), int)

    def check_fault(self, formula, kind, word):
        with self.subTest(formula=formula):
            with self.assertRaises(Fault) as caught:
                reckon(formula)
            self.assertIs(type(caught.exception), kind)
            self.assertEqual(caught.exception.word(), word)

    def check_nought(self, formula):
        self.check_fault(formula, Nought, "nought")

    def check_great(self, formula):
        self.check_fault(formula, Great, "great")


class Leaves(Reckoning):
    def test_number(self):
        for worth in (0, 1, -1, 12345, GREATEST, -GREATEST):
            self.check(number(worth), worth)

    def test_box(self):
        self.check(("box", "x"), 7)
        self.check(("box", "y"), -3)
        self.check(("box", "big"), GREATEST)

    def test_long(self):
        self.check(("long", "q"), 3)
        self.check(("long", "r"), 0)

    def test_got(self):
        self.check(("got", 0), 8)
        self.check(("got", 1), -9)

    def test_now(self):
        self.check(("now",), 40)
        for now in (0, 1, 10 ** 12):
            self.assertEqual(reckon(("now",), now), now)


class Pairs(Reckoning):
    def test_plus(self):
        for first, second, worth in ((2, 3, 5), (2, -3, -1), (0, 0, 0), (-2, -3, -5)):
            self.check(("plus", number(first), number(second)), worth)

    def test_less(self):
        for first, second, worth in ((2, 3, -1), (3, 2, 1), (2, -3, 5), (-2, -3, 1), (4, 4, 0)):
            self.check(("less", number(first), number(second)), worth)

    def test_times(self):
        for first, second, worth in ((2, 3, 6), (2, -3, -6), (-2, -3, 6), (0, GREATEST, 0)):
            self.check(("times", number(first), number(second)), worth)

    def test_part_is_rounded_down(self):
        for first, second, worth in (
                (7, 2, 3), (-7, 2, -4), (7, -2, -4), (-7, -2, 3), (6, 2, 3), (-6, 2, -3), (6, -2, -3), (-6, -2, 3),
                (0, 5, 0), (0, -5, 0), (1, 5, 0), (-1, 5, -1), (1, -5, -1), (-1, -5, 0)):
            self.check(("part", number(first), number(second)), worth)

    def test_rest_goes_with_the_part_rounded_down(self):
        for first, second, worth in (
                (7, 2, 1), (-7, 2, 1), (7, -2, -1), (-7, -2, -1), (6, 2, 0), (-6, 2, 0), (6, -2, 0), (-6, -2, 0),
                (0, 5, 0), (0, -5, 0), (1, 5, 1), (-1, 5, 4), (1, -5, -4), (-1, -5, -1)):
            self.check(("rest", number(first), number(second)), worth)

    def test_part_and_rest_belong_together(self):
        for first in range(-12, 13):
            for second in list(range(-5, 0)) + list(range(1, 6)):
                part = of_two("part", first, second)
                rest = of_two("rest", first, second)
                self.assertEqual(first, second * part + rest)
                self.assertLess(abs(rest), abs(second))
                self.assertTrue(rest == 0 or (rest < 0) == (second < 0))

    def test_part_and_rest_of_great_numbers_are_exact(self):
        self.check(("part", number(GREATEST - 1), number(GREATEST)), 0)
        self.check(("part", number(1 - GREATEST), number(GREATEST)), -1)
        self.check(("part", number(GREATEST - 1), number(-GREATEST)), -1)
        self.check(("part", number(GREATEST - 1), number(3)), 333333333333333)
        self.check(("rest", number(GREATEST), number(7)), GREATEST % 7)
        self.check(("rest", number(1), number(-GREATEST)), 1 - GREATEST)
        self.check(("rest", number(-1), number(GREATEST)), GREATEST - 1)

    def test_below(self):
        for first, second, worth in ((2, 3, 1), (3, 3, 0), (4, 3, 0), (-4, 3, 1), (-3, -4, 0)):
            self.check(("below", number(first), number(second)), worth)

    def test_same(self):
        for first, second, worth in ((3, 3, 1), (2, 3, 0), (4, 3, 0), (3, -3, 0), (0, 0, 1)):
            self.check(("same", number(first), number(second)), worth)


class Within(Reckoning):
    def test_each_leaf_within_others(self):
        leaves = ((number(6), 6), (("box", "x"), 7), (("long", "q"), 3), (("got", 1), -9), (("now",), 40))
        for leaf, worth in leaves:
            self.check(("less", leaf, number(1)), worth - 1)
            self.check(("less", number(1), leaf), 1 - worth)
            self.check(("times", ("plus", leaf, leaf), leaf), 2 * worth * worth)

    def test_each_pair_within_others(self):
        pairs = (("plus", 9), ("less", 5), ("times", 14), ("part", 3), ("rest", 1), ("below", 0), ("same", 0))
        for kind, worth in pairs:
            inner = (kind, ("box", "x"), number(2))
            self.check(("less", inner, number(100)), worth - 100)
            self.check(("less", number(100), inner), 100 - worth)

    def test_fifteen_parts(self):
        formula = number(1)
        for step in range(7):
            formula = ("plus", formula, ("box", "x"))
        self.check(formula, 50)
        formula = number(1)
        for step in range(7):
            formula = ("less", ("box", "x"), formula)
        self.check(formula, 6)

    def test_somewhat_more_parts_are_not_refused(self):
        formula = number(0)
        for step in range(20):
            formula = ("plus", number(1), formula)
        self.check(formula, 20)


class NoughtFaults(Reckoning):
    def test_g_of_0(self):
        for kind in ("part", "rest"):
            for first in (0, 1, -1, GREATEST):
                self.check_nought((kind, number(first), number(0)))
            self.check_nought((kind, number(1), ("long", "r")))
            self.check_nought((kind, number(1), ("less", ("box", "x"), number(7))))

    def test_f_of_0_is_none(self):
        for kind in ("part", "rest"):
            self.check((kind, number(0), number(3)), 0)

    def test_within_others(self):
        self.check_nought(("plus", NOUGHT, number(1)))
        self.check_nought(("plus", number(1), NOUGHT))
        self.check_nought(("same", NOUGHT, NOUGHT))


class GreatFaults(Reckoning):
    def test_results_at_the_bounds(self):
        self.check(("plus", number(GREATEST - 1), number(1)), GREATEST)
        self.check(("plus", number(1 - GREATEST), number(-1)), -GREATEST)
        self.check(("less", number(GREATEST - 1), number(-1)), GREATEST)
        self.check(("less", number(1 - GREATEST), number(1)), -GREATEST)
        self.check(("times", number(10 ** 7), number(10 ** 8)), GREATEST)
        self.check(("times", number(10 ** 7), number(-(10 ** 8))), -GREATEST)
        self.check(("part", number(-GREATEST), number(-1)), GREATEST)
        self.check(("part", number(GREATEST), number(-1)), -GREATEST)

    def test_results_one_beyond(self):
        self.check_great(("plus", number(GREATEST), number(1)))
        self.check_great(("plus", number(-GREATEST), number(-1)))
        self.check_great(("less", number(GREATEST), number(-1)))
        self.check_great(("less", number(-GREATEST), number(1)))
        # A product is just one beyond only with a divisor of 10 ** 15 + 1, such as 11.
        self.assertEqual((GREATEST + 1) % 11, 0)
        self.check_great(("times", number(11), number((GREATEST + 1) // 11)))
        self.check_great(("times", number(-11), number((GREATEST + 1) // 11)))

    def test_results_far_beyond(self):
        self.check_great(("times", number(GREATEST), number(GREATEST)))
        self.check_great(("times", number(GREATEST), number(-GREATEST)))

    def test_parts_on_the_way(self):
        self.check_great(("less", GREAT, number(1)))
        self.check_great(("less", number(1), GREAT))
        self.check_great(("times", GREAT, number(0)))
        self.check_great(("times", number(0), GREAT))
        self.check_great(("below", GREAT, number(0)))
        self.check_great(("same", GREAT, GREAT))
        self.check_great(("part", GREAT, number(2)))
        self.check_great(("rest", number(2), GREAT))

    def test_what_rest_goes_through_is_no_part(self):
        self.check(("rest", number(GREATEST), number(1 - GREATEST)), 2 - GREATEST)


class OrderOfReckoning(Reckoning):
    def test_f_ahead_of_g(self):
        for kind in ("plus", "less", "times", "part", "rest", "below", "same"):
            self.check_nought((kind, NOUGHT, GREAT))
            self.check_great((kind, GREAT, NOUGHT))

    def test_f_ahead_of_a_g_of_0(self):
        for kind in ("part", "rest"):
            self.check_great((kind, GREAT, number(0)))

    def test_both_are_reckoned(self):
        self.check_nought(("times", number(0), NOUGHT))
        self.check_great(("times", number(0), GREAT))


class Untouched(unittest.TestCase):
    def check_untouched(self, formula):
        state = some_state()
        got = [8, -9]
        try:
            worth_of(formula, state, 40, got)
        except Fault:
            pass
        before = some_state()
        self.assertEqual(
            (state.boxes, state.queues, state.drawn, state.sent),
            (before.boxes, before.queues, before.drawn, before.sent))
        self.assertEqual(got, [8, -9])

    def test_state_and_what_came_stay(self):
        reads = ("plus", ("plus", ("box", "x"), ("long", "q")), ("plus", ("got", 0), ("got", 1)))
        for formula in (reads, ("plus", reads, NOUGHT), ("plus", reads, GREAT), ("now",)):
            self.check_untouched(formula)

    def test_asked_twice_tells_the_same(self):
        state = some_state()
        formula = ("times", ("box", "x"), ("long", "q"))
        self.assertEqual(worth_of(formula, state, 0, [0, 0]), 21)
        self.assertEqual(worth_of(formula, state, 0, [0, 0]), 21)

    def test_reads_the_state_as_it_is(self):
        state = some_state()
        state.boxes["x"] = 10
        state.queues["q"].append(1)
        self.assertEqual(worth_of(("times", ("box", "x"), ("long", "q")), state, 0, [0, 0]), 40)


if __name__ == "__main__":
    unittest.main()
