"""Keepers: the plain run with marks on its way, going on from each of them, and what is kept apart."""

import copy
import random
import unittest

from momentloom.errors import MomentError, NoMark
from momentloom.forks import fork
from momentloom.marks import Keeper
from momentloom.model import Model
from momentloom.plain import Book, plain

from samples import (
    CUT, EMPTY, GO, chain, lively_machines, lively_signs, number, parts_of, send, shop, some_machines, some_signs)

EVERIES = (1, 2, 3, 7, 50)
SHOP = [(0, 0, 0, "open", 0, 0), (3, 4, 1, "come", 2, 0), (3, 4, 1, "come", 1, 0), (2, 0, 1, "serve", 0, 0)]
ENDLESS = chain(10 ** 9, [])


def marks_behind(count, every):
    return [number for number in range(count + 1) if number % every == 0]


def tail(model, signs, mark, most):
    """What going on from a mark is to tell, by a run from the beginning."""
    book = plain(model, signs, mark + most)
    return (book.records[mark:], book.ending)


def all_of(keeper):
    """All that a keeper tells from its marks, with enough records that nothing in a mark stays unseen."""
    return copy.deepcopy([(mark, keeper.go_on(mark, 60)) for mark in keeper.marks()])


def spoil(records):
    for record in records:
        for write in record[5]:
            if isinstance(write[1], list):
                write[1].append(99)
        record[5].append(("more", 1))
        record[6].clear()
    records.clear()


class Runs(unittest.TestCase):
    def check_runs(self, model, signs, mosts):
        for every in EVERIES:
            keeper = Keeper(model, signs, every)
            for most in mosts:
                book = keeper.run(most)
                self.assertIsInstance(book, Book)
                self.assertEqual(parts_of(book), parts_of(plain(model, signs, most)))
                self.assertEqual(keeper.marks(), marks_behind(len(book.records), every))

    def test_the_plain_runs_book_with_each_ending(self):
        mosts = (0, 1, 2, 5, 6, 7, 8, 1000, 3)
        for behind, ending in (
                ([("end",)], "end"), ([("put", "n", ("part", number(1), number(0)))], "fault"), ([], "empty")):
            self.check_runs(chain(6, behind), GO, mosts)
            self.assertEqual(Keeper(chain(6, behind), GO, 3).run(1000).ending[0], ending)
        self.check_runs(ENDLESS, GO, (0, 1, 49, 50, 51, 100, 120))

    def test_the_shop(self):
        self.check_runs(shop(), SHOP, range(40))

    def test_no_signs(self):
        self.check_runs(shop(), [], (0, 1, 5))
        self.assertEqual(Keeper(shop(), [], 1).run(0).ending, EMPTY)

    def test_1000_records_and_somewhat_more(self):
        for every in (1, 49, 50, 51):
            keeper = Keeper(ENDLESS, GO, every)
            for most in (1000, 1003):
                self.assertEqual(parts_of(keeper.run(most)), parts_of(plain(ENDLESS, GO, most)))
                self.assertEqual(keeper.marks(), marks_behind(most, every))
                self.assertEqual(keeper.go_on(keeper.marks()[-1], 5), tail(ENDLESS, GO, keeper.marks()[-1], 5))

    def test_many_models(self):
        chance = random.Random(18)
        for turn in range(60):
            model = Model(some_machines(chance))
            signs = some_signs(chance)
            self.check_runs(model, signs, (60, chance.randrange(12)))

    def test_marks_closer_than_each_record(self):
        # Somewhat beyond what may be asked, and so not refused.
        keeper = Keeper(ENDLESS, GO, 0)
        self.assertEqual(parts_of(keeper.run(7)), parts_of(plain(ENDLESS, GO, 7)))
        self.assertEqual(keeper.marks()[0], 0)

    def test_fewer_than_none(self):
        for signs, ending in ((GO, CUT), ([], EMPTY)):
            keeper = Keeper(ENDLESS, signs, 2)
            self.assertEqual(plain(ENDLESS, signs, -1).ending, ending)
            self.assertEqual(parts_of(keeper.run(-1)), parts_of(plain(ENDLESS, signs, -1)))
            self.assertEqual(keeper.marks(), [0])
            self.assertEqual(keeper.go_on(0, -1), ([], ending))


class Marks(unittest.TestCase):
    def test_before_any_run(self):
        for every in EVERIES:
            keeper = Keeper(ENDLESS, GO, every)
            self.assertEqual(keeper.marks(), [0])
            self.assertEqual(keeper.go_on(0, 4), tail(ENDLESS, GO, 0, 4))
            self.assertEqual(keeper.go_on(0, 0), ([], CUT))
            self.assertEqual(keeper.marks(), [0])
        self.assertEqual(Keeper(ENDLESS, [], 1).go_on(0, 0), ([], EMPTY))

    def test_behind_a_run_that_is_cut(self):
        keeper = Keeper(ENDLESS, GO, 5)
        for most, marks in ((0, [0]), (4, [0]), (5, [0, 5]), (6, [0, 5]), (14, [0, 5, 10]), (15, [0, 5, 10, 15])):
            self.assertEqual(keeper.run(most).ending, CUT)
            self.assertEqual(keeper.marks(), marks)

    def test_behind_a_run_with_an_end(self):
        for count, marks in ((4, [0]), (5, [0, 5]), (6, [0, 5]), (9, [0, 5]), (10, [0, 5, 10])):
            keeper = Keeper(chain(count, [("end",), send(0, "go", 1)]), GO, 5)
            self.assertEqual(keeper.run(100).ending[0], "end")
            self.assertEqual(keeper.marks(), marks)

    def test_behind_a_run_with_a_fault(self):
        for count, marks in ((4, [0]), (5, [0, 5]), (6, [0, 5]), (9, [0, 5]), (10, [0, 5, 10])):
            keeper = Keeper(chain(count, [send(0, "bad", 1)]), GO, 5)
            self.assertEqual(keeper.run(100).ending[0], "fault")
            self.assertEqual(keeper.marks(), marks)

    def test_behind_a_run_with_nothing_pending(self):
        for count, marks in ((4, [0]), (5, [0, 5]), (6, [0, 5]), (9, [0, 5]), (10, [0, 5, 10])):
            keeper = Keeper(chain(count, []), GO, 5)
            self.assertEqual(keeper.run(100).ending, EMPTY)
            self.assertEqual(keeper.marks(), marks)

    def test_each_record_and_each_fifty(self):
        keeper = Keeper(ENDLESS, GO, 1)
        keeper.run(60)
        self.assertEqual(keeper.marks(), list(range(61)))
        keeper = Keeper(ENDLESS, GO, 50)
        for most, marks in ((49, [0]), (50, [0, 50]), (99, [0, 50]), (100, [0, 50, 100])):
            keeper.run(most)
            self.assertEqual(keeper.marks(), marks)

    def test_a_fault_at_the_very_first_happening(self):
        signs = [(0, 0, 0, "bad", 0, 0)]
        fault = ("fault", "nought", (0, 0, -1, 0))
        for every in EVERIES:
            keeper = Keeper(chain(3, []), signs, every)
            self.assertEqual(keeper.run(10).ending, fault)
            self.assertEqual(keeper.marks(), [0])
            self.assertEqual(keeper.go_on(0, 0), ([], CUT))
            self.assertEqual(keeper.go_on(0, 1), ([], fault))

    def test_a_later_run_forgets_the_marks_of_the_earlier_one(self):
        keeper = Keeper(ENDLESS, GO, 3)
        keeper.run(12)
        for most in (4, 0, 9, 2):
            keeper.run(most)
            self.assertEqual(keeper.marks(), marks_behind(most, 3))
            self.assertRaises(NoMark, keeper.go_on, 12, 1)


class Cutting(unittest.TestCase):
    def marked(self):
        keeper = Keeper(ENDLESS, GO, 4)
        keeper.run(18)
        return keeper

    def test_all_below_the_number_are_forgotten(self):
        for number, marks in (
                (0, [0, 4, 8, 12, 16]), (1, [4, 8, 12, 16]), (4, [4, 8, 12, 16]), (5, [8, 12, 16]), (8, [8, 12, 16]),
                (16, [16]), (17, []), (18, []), (1000, []), (-1, [0, 4, 8, 12, 16])):
            keeper = self.marked()
            self.assertIsNone(keeper.cut(number))
            self.assertEqual(keeper.marks(), marks)
            for mark in (0, 4, 8, 12, 16):
                if mark in marks:
                    self.assertEqual(keeper.go_on(mark, 7), tail(ENDLESS, GO, mark, 7))
                else:
                    self.assertRaises(NoMark, keeper.go_on, mark, 7)

    def test_till_the_next_run(self):
        for number in (0, 8, 9, 100):
            keeper = self.marked()
            keeper.cut(number)
            keeper.run(9)
            self.assertEqual(keeper.marks(), [0, 4, 8])
            self.assertEqual(keeper.go_on(0, 3), tail(ENDLESS, GO, 0, 3))

    def test_again_and_again(self):
        keeper = self.marked()
        for number, marks in ((5, [8, 12, 16]), (2, [8, 12, 16]), (12, [12, 16]), (13, [16]), (13, [16]), (40, [])):
            keeper.cut(number)
            self.assertEqual(keeper.marks(), marks)

    def test_before_any_run(self):
        keeper = Keeper(ENDLESS, GO, 4)
        keeper.cut(0)
        self.assertEqual(keeper.marks(), [0])
        keeper.cut(1)
        self.assertEqual(keeper.marks(), [])
        self.assertRaises(NoMark, keeper.go_on, 0, 1)
        keeper.run(3)
        self.assertEqual(keeper.marks(), [0])


class GoingOn(unittest.TestCase):
    def check(self, model, signs, every, run):
        """From each mark for none, for fewer, for as many and for more records than are left."""
        keeper = Keeper(model, signs, every)
        whole = len(keeper.run(run).records)
        for mark in keeper.marks():
            left = whole - mark
            for most in sorted({0, 1, 2, max(left - 1, 0), left, left + 1, left + 2, 40}):
                told = keeper.go_on(mark, most)
                self.assertIsInstance(told, tuple)
                self.assertIsInstance(told[0], list)
                self.assertEqual(told, tail(model, signs, mark, most))
        return keeper

    def test_each_ending(self):
        for every in EVERIES:
            for count in (1, 5, 6, 7):
                for behind in ([("end",)], [("end",), send(0, "go", 1)], [send(0, "bad", 1)], []):
                    for run in (0, 3, count, count + 1, 100):
                        self.check(chain(count, behind), GO, every, run)
            self.check(ENDLESS, GO, every, 100)
            self.check(ENDLESS, GO, every, 53)

    def test_from_a_mark_at_which_an_end_made_it_over(self):
        ending = ("end", (5, 0, 0, 4))
        keeper = self.check(chain(6, [("end",), send(0, "go", 1)]), GO + [(90, 0, 0, "go", 0, 0)], 3, 100)
        for most in (0, 1, 50):
            self.assertEqual(keeper.go_on(6, most), ([], ending))
        self.assertEqual(keeper.go_on(3, 3), (keeper.go_on(3, 50)[0], ending))
        self.assertEqual(keeper.go_on(3, 2)[1], CUT)

    def test_an_end_is_kept_though_the_run_was_let_no_more(self):
        keeper = Keeper(chain(6, [("end",), send(0, "go", 1)]), GO, 3)
        self.assertEqual(keeper.run(6).ending, ("end", (5, 0, 0, 4)))
        self.assertEqual(keeper.go_on(6, 5), ([], ("end", (5, 0, 0, 4))))

    def test_from_a_mark_at_which_nothing_pending_made_it_over(self):
        keeper = self.check(chain(6, []), GO, 3, 100)
        for most in (0, 1, 50):
            self.assertEqual(keeper.go_on(6, most), ([], EMPTY))

    def test_from_a_mark_ahead_of_a_fault(self):
        keeper = self.check(chain(6, [send(0, "bad", 1)]), GO, 3, 100)
        self.assertEqual(keeper.go_on(6, 0), ([], CUT))
        self.assertEqual(keeper.go_on(6, 1), ([], ("fault", "nought", (6, 0, 0, 5))))

    def test_further_than_the_run_went(self):
        keeper = Keeper(ENDLESS, GO, 2)
        keeper.run(4)
        told = keeper.go_on(4, 30)
        self.assertEqual(told, tail(ENDLESS, GO, 4, 30))
        self.assertEqual(len(told[0]), 30)
        self.assertEqual(keeper.marks(), [0, 2, 4])

    def test_boxes_queues_draws_and_counts_are_kept(self):
        chance = random.Random(181)
        for turn in range(40):
            count = chance.randrange(1, 5)
            model = Model(lively_machines(chance, count))
            signs = lively_signs(chance, count)
            keeper = Keeper(model, signs, chance.choice([1, 4, 9]))
            keeper.run(chance.randrange(70))
            for mark in keeper.marks():
                for most in (0, 1, 30):
                    self.assertEqual(keeper.go_on(mark, most), tail(model, signs, mark, most))

    def test_many_models(self):
        chance = random.Random(182)
        endings = {}
        for turn in range(150):
            model = Model(some_machines(chance))
            signs = some_signs(chance)
            every = chance.choice([1, 2, 3, 5])
            self.check(model, signs, every, chance.choice([0, 3, 30]))
            endings[plain(model, signs, 30).ending[0]] = True
        self.assertEqual(sorted(endings), ["cut", "empty", "end", "fault"])


class Refused(unittest.TestCase):
    def test_a_mark_that_is_not_kept(self):
        keeper = Keeper(ENDLESS, GO, 5)
        for mark in (1, 5, -1, -5, 1000):
            self.assertRaises(NoMark, keeper.go_on, mark, 3)
        keeper.run(12)
        for mark in (-5, -1, 1, 4, 6, 9, 11, 12, 13, 15, 1000):
            for most in (0, 1, 50):
                with self.assertRaises(NoMark) as caught:
                    keeper.go_on(mark, most)
                self.assertIsInstance(caught.exception, MomentError)
        self.assertEqual(keeper.marks(), [0, 5, 10])

    def test_a_refusal_changes_nothing(self):
        keeper = Keeper(shop(), SHOP, 5)
        keeper.run(12)
        before = all_of(keeper)
        self.assertRaises(NoMark, keeper.go_on, 12, 9)
        self.assertEqual(all_of(keeper), before)

    def test_none_behind_a_run_that_was_over_sooner(self):
        keeper = Keeper(chain(6, []), GO, 1)
        keeper.run(100)
        self.assertRaises(NoMark, keeper.go_on, 7, 0)


class Apart(unittest.TestCase):
    """What is handed in stays and is no longer needed, and what is told is the asker's own."""

    def marked(self):
        keeper = Keeper(shop(), SHOP, 3)
        keeper.run(14)
        return keeper

    def test_going_on_and_forking_leave_the_keeper_as_it_is(self):
        keeper = self.marked()
        before = all_of(keeper)
        for mark in keeper.marks():
            for most in (0, 1, 9, 200):
                keeper.go_on(mark, most)
                fork(keeper, mark, (900, 0, 1, "serve", 0, 0), most)
                fork(keeper, mark, (901, 0, 0, "open", 0, 0), most)
        self.assertEqual(all_of(keeper), before)
        self.assertEqual(keeper.marks(), [0, 3, 6, 9, 12])
        self.assertEqual(parts_of(keeper.run(14)), parts_of(plain(shop(), SHOP, 14)))

    def test_what_is_told_by_a_run(self):
        keeper = self.marked()
        before = all_of(keeper)
        for most in (14, 12, 3):
            book = keeper.run(most)
            for state in book.states:
                for name in state.boxes:
                    state.boxes[name] = 77
                for queue in state.queues.values():
                    queue.append(98)
                state.drawn += 2
                state.sent += 50
            book.states.clear()
            spoil(book.records)
            self.assertEqual(all_of(keeper), before[:len(keeper.marks())])
            self.assertEqual(parts_of(keeper.run(most)), parts_of(plain(shop(), SHOP, most)))

    def test_what_is_told_by_going_on(self):
        keeper = self.marked()
        before = all_of(keeper)
        for mark in keeper.marks():
            spoil(keeper.go_on(mark, 40)[0])
        self.assertEqual(all_of(keeper), before)

    def test_told_marks(self):
        keeper = self.marked()
        told = keeper.marks()
        told.append(5)
        told.remove(0)
        self.assertEqual(keeper.marks(), [0, 3, 6, 9, 12])
        before = keeper.marks()
        keeper.cut(100)
        self.assertEqual(before, [0, 3, 6, 9, 12])

    def test_a_book_told_earlier_stays(self):
        keeper = self.marked()
        book = keeper.run(14)
        told = keeper.go_on(3, 8)
        before = copy.deepcopy((parts_of(book), told))
        keeper.run(30)
        keeper.go_on(12, 30)
        keeper.cut(12)
        self.assertEqual((parts_of(book), told), before)

    def test_the_model_and_the_signs_stay(self):
        model = shop()
        signs = list(SHOP)
        keeper = Keeper(model, signs, 3)
        keeper.run(14)
        for mark in keeper.marks():
            keeper.go_on(mark, 9)
        self.assertEqual(model.machines, shop().machines)
        self.assertEqual(signs, SHOP)

    def test_changing_the_model_and_the_signs_behind_the_making(self):
        def spoil_all(model, signs):
            for machine in model.machines:
                machine[1].clear()
                machine[2].append("more")
                machine[3].append(1)
                for heard in machine[4]:
                    heard[1].clear()
            model.machines.clear()
            signs[0] = (9, 0, 1, "come", 0, 0)
            signs.append((1, 0, 0, "open", 0, 0))

        for early in (True, False):
            model = shop()
            signs = list(SHOP)
            keeper = Keeper(model, signs, 3)
            if early:
                spoil_all(model, signs)
            keeper.run(14)
            if not early:
                spoil_all(model, signs)
            self.assertEqual(all_of(keeper), all_of(self.marked()))
            later = (900, 0, 0, "deaf", 0, 0)
            self.assertEqual(fork(keeper, 3, later, 9), fork(self.marked(), 3, later, 9))
            self.assertEqual(parts_of(keeper.run(20)), parts_of(plain(shop(), SHOP, 20)))

    def test_changing_the_machines_that_the_model_was_made_of(self):
        machines = copy.deepcopy(shop().machines)
        keeper = Keeper(Model(machines), SHOP, 3)
        machines[0][4][0][1].clear()
        keeper.run(14)
        self.assertEqual(all_of(keeper), all_of(self.marked()))

    def test_two_keepers(self):
        model = shop()
        one = Keeper(model, SHOP, 3)
        other = Keeper(model, SHOP, 3)
        one.run(14)
        self.assertEqual(other.marks(), [0])
        other.run(14)
        one.cut(9)
        self.assertEqual(other.marks(), [0, 3, 6, 9, 12])


if __name__ == "__main__":
    unittest.main()
