"""Forks: what comes behind a mark with one outside sign more, and which signs come too late for it."""

import copy
import random
import unittest

from momentloom.errors import MomentError, NoMark, TooLate
from momentloom.forks import fork
from momentloom.marks import Keeper
from momentloom.model import Model
from momentloom.plain import plain

from samples import (
    CUT, EMPTY, GO, chain, lively_machines, lively_signs, parts_of, send, shop, some_machines, some_signs)

SHOP = [(0, 0, 0, "open", 0, 0), (3, 4, 1, "come", 2, 0), (3, 4, 1, "come", 1, 0), (2, 0, 1, "serve", 0, 0)]
ENDLESS = chain(10 ** 9, [])
LATER = (10 ** 6, 9, 0, "go", 0, 0)


def tail(model, signs, mark, most):
    """What a fork is to tell, by a run with its list of signs from the beginning."""
    book = plain(model, signs, mark + most)
    return (book.records[mark:], book.ending)


def signs_round(key):
    """Times and ranks of signs, some of which have keys just greater than this one, and some just not."""
    return [(key[0] + time, key[1] + rank) for time in (-1, 0, 1) for rank in (-1, 0, 1)]


class Forking(unittest.TestCase):
    def check(self, keeper, model, signs, mark, sign, most):
        """Refused or not, by the keys; told is whether it was not refused."""
        ahead = plain(model, signs, mark).records
        key = (sign[0], sign[1], -1, len(signs))
        if ahead and key < ahead[-1][0]:
            self.assertRaises(TooLate, fork, keeper, mark, sign, most)
            return False
        told = fork(keeper, mark, sign, most)
        self.assertIsInstance(told, tuple)
        self.assertIsInstance(told[0], list)
        self.assertEqual(told, tail(model, signs + [sign], mark, most))
        return True


class FromEachMark(Forking):
    def check_all(self, model, signs, every, run, to, names):
        keeper = Keeper(model, signs, every)
        records = keeper.run(run).records
        found = []
        for mark in keeper.marks():
            key = records[mark - 1][0] if mark else (1, 1, 0, 0)
            for time, rank in signs_round(key):
                if time >= 0 and 0 <= rank <= 9:
                    for most in (0, 1, 20):
                        sign = (time, rank, to, names, 3, 4)
                        found.append(self.check(keeper, model, signs, mark, sign, most))
        return found

    def test_just_greater_and_just_not(self):
        for every in (1, 2, 5, 50):
            found = self.check_all(ENDLESS, GO, every, 60, 0, "go")
            self.assertIn(True, found)
        self.assertIn(False, found)
        for every in (1, 3, 50):
            self.check_all(shop(), SHOP, every, 30, 1, "come")
            self.check_all(shop(), SHOP, every, 30, 0, "open")

    def test_each_ending(self):
        for behind in ([("end",)], [("end",), send(0, "go", 1)], [send(0, "bad", 1)], []):
            for every in (1, 2, 3, 6):
                for sign in ("go", "halt", "bad", "deaf"):
                    self.check_all(chain(6, behind), GO, every, 100, 0, sign)

    def test_many_models(self):
        chance = random.Random(19)
        found = []
        for turn in range(60):
            model = Model(some_machines(chance))
            signs = some_signs(chance)
            found.extend(self.check_all(model, signs, chance.choice([1, 2, 3]), 12, chance.randrange(3), "a"))
        self.assertIn(True, found)
        self.assertIn(False, found)

    def test_lively_models(self):
        chance = random.Random(191)
        for turn in range(20):
            count = chance.randrange(1, 5)
            model = Model(lively_machines(chance, count))
            signs = lively_signs(chance, count)
            keeper = Keeper(model, signs, chance.choice([1, 4, 9]))
            keeper.run(chance.randrange(60))
            for mark in keeper.marks():
                sign = (chance.randrange(40), chance.randrange(10), chance.randrange(count), "b", 5, 1)
                self.check(keeper, model, signs, mark, sign, 30)


class Keys(Forking):
    """One record is ahead of the mark, and its key is what the sign's must be greater than."""

    def refused(self, keeper, sign):
        try:
            fork(keeper, 1, sign, 3)
        except TooLate as refusal:
            self.assertIsInstance(refusal, MomentError)
            return True
        return False

    def test_behind_an_outside_sign(self):
        keeper = Keeper(ENDLESS, [(5, 2, 0, "deaf", 0, 0), (7, 3, 0, "go", 0, 0)], 1)
        keeper.run(1)
        # The same time and rank and FROM, but a greater COUNT: the sign becomes the last of the list.
        self.assertFalse(self.refused(keeper, (5, 2, 0, "go", 0, 0)))
        self.assertFalse(self.refused(keeper, (5, 3, 0, "go", 0, 0)))
        self.assertFalse(self.refused(keeper, (6, 0, 0, "go", 0, 0)))
        self.assertTrue(self.refused(keeper, (5, 1, 0, "go", 0, 0)))
        self.assertTrue(self.refused(keeper, (4, 9, 0, "go", 0, 0)))
        self.assertTrue(self.refused(keeper, (0, 0, 0, "go", 0, 0)))

    def test_behind_a_sign_from_a_machine(self):
        model = Model([("m", [], [], [], [("go", [send(0, "go", 5, 2)])])])
        keeper = Keeper(model, GO, 2)
        keeper.run(2)
        self.assertEqual(plain(model, GO, 2).records[-1][0], (5, 2, 0, 0))
        # The same time and rank, but FROM -1 is less than a machine's number.
        self.assertRaises(TooLate, fork, keeper, 2, (5, 2, 0, "go", 0, 0), 3)
        self.assertRaises(TooLate, fork, keeper, 2, (5, 1, 0, "go", 0, 0), 3)
        self.assertRaises(TooLate, fork, keeper, 2, (4, 9, 0, "go", 0, 0), 3)
        self.assertEqual(fork(keeper, 2, (5, 3, 0, "go", 7, 0), 3)[0][0][:5], ((5, 3, -1, 1), 0, "go", 7, 0))
        self.assertEqual(fork(keeper, 2, (6, 0, 0, "go", 7, 0), 3)[0][0][:5], ((6, 0, -1, 1), 0, "go", 7, 0))

    def test_the_last_record_counts_and_not_what_is_pending(self):
        keeper = Keeper(ENDLESS, [(5, 2, 0, "deaf", 0, 0), (70, 3, 0, "deaf", 0, 0)], 1)
        keeper.run(1)
        told = fork(keeper, 1, (6, 0, 0, "deaf", 8, 9), 9)
        self.assertEqual([record[0] for record in told[0]], [(6, 0, -1, 2), (70, 3, -1, 1)])
        self.assertEqual(told[0][0], ((6, 0, -1, 2), 0, "deaf", 8, 9, [], []))

    def test_any_sign_where_no_record_is_ahead(self):
        for signs in ([], GO, [(500, 5, 0, "go", 0, 0)]):
            for run in (None, 0, 20):
                keeper = Keeper(chain(6, []), signs, 3)
                if run is not None:
                    keeper.run(run)
                for sign in ((0, 0, 0, "go", 0, 0), (500, 5, 0, "deaf", 1, 2), (500, 4, 0, "halt", 1, 2), LATER):
                    for most in (0, 1, 30):
                        self.assertTrue(self.check(keeper, chain(6, []), signs, 0, sign, most))

    def test_too_late_also_where_none_are_let(self):
        keeper = Keeper(ENDLESS, GO, 2)
        keeper.run(4)
        for most in (0, 1):
            self.assertRaises(TooLate, fork, keeper, 4, (0, 0, 0, "go", 0, 0), most)

    def test_at_an_end_too(self):
        keeper = Keeper(chain(6, [("end",)]), GO, 3)
        keeper.run(100)
        self.assertRaises(TooLate, fork, keeper, 6, (5, 0, 0, "go", 0, 0), 3)
        self.assertEqual(fork(keeper, 6, (5, 1, 0, "go", 0, 0), 3), ([], ("end", (5, 0, 0, 4))))


class Endings(Forking):
    def test_from_where_nothing_was_pending_it_goes_on(self):
        model = chain(6, [])
        keeper = Keeper(model, GO, 3)
        keeper.run(100)
        told = fork(keeper, 6, (50, 0, 0, "deaf", 0, 0), 4)
        self.assertEqual(told, ([((50, 0, -1, 1), 0, "deaf", 0, 0, [], [])], EMPTY))
        self.assertEqual(fork(keeper, 6, (50, 0, 0, "deaf", 0, 0), 0), ([], CUT))
        self.assertEqual(fork(keeper, 6, (50, 0, 0, "halt", 0, 0), 1)[1], ("end", (50, 0, -1, 1)))
        self.assertEqual(fork(keeper, 6, (50, 0, 0, "bad", 0, 0), 1), ([], ("fault", "nought", (50, 0, -1, 1))))
        self.assertEqual(fork(keeper, 6, (50, 0, 0, "bad", 0, 0), 0), ([], CUT))

    def test_from_where_an_end_made_it_over_it_stays_over(self):
        for behind in ([("end",)], [("end",), send(0, "go", 1)]):
            keeper = Keeper(chain(6, behind), GO, 3)
            keeper.run(100)
            for most in (0, 1, 9):
                self.assertEqual(fork(keeper, 6, LATER, most), ([], ("end", (5, 0, 0, 4))))

    def test_ahead_of_a_fault(self):
        # The sign ends the run at a time at which the fault would have come.
        keeper = Keeper(chain(6, [send(0, "bad", 1)]), GO, 3)
        self.assertEqual(keeper.run(100).ending[0], "fault")
        told = fork(keeper, 6, (6, 0, 0, "halt", 0, 0), 5)
        self.assertEqual((len(told[0]), told[1]), (1, ("end", (6, 0, -1, 1))))
        self.assertEqual(fork(keeper, 6, (7, 0, 0, "halt", 0, 0), 5), ([], ("fault", "nought", (6, 0, 0, 5))))

    def test_fewer_as_many_and_more_than_there_are(self):
        model = chain(6, [])
        keeper = Keeper(model, GO, 2)
        keeper.run(100)
        for mark in keeper.marks():
            for most in range(12):
                self.assertTrue(self.check(keeper, model, GO, mark, (100, 0, 0, "deaf", 0, 0), most))

    def test_with_20_outside_signs(self):
        signs = [(place, place % 10, 0, "go" if place % 7 == 0 else "deaf", place, 0) for place in range(20)]
        keeper = Keeper(ENDLESS, signs, 10)
        keeper.run(50)
        for mark in keeper.marks():
            for sign in ((400, 0, 0, "go", 0, 0), (19, 9, 0, "halt", 0, 0), (400, 0, 0, "bad", 0, 0)):
                self.check(keeper, ENDLESS, signs, mark, sign, 30)
        told = fork(keeper, 0, (0, 0, 0, "deaf", 5, 6), 4)
        self.assertIn(((0, 0, -1, 20), 0, "deaf", 5, 6, [], []), told[0])


class Refused(Forking):
    def test_a_mark_that_is_not_kept(self):
        keeper = Keeper(ENDLESS, GO, 5)
        self.assertRaises(NoMark, fork, keeper, 5, LATER, 3)
        keeper.run(12)
        for mark in (-5, -1, 1, 4, 6, 11, 12, 15, 1000):
            for most in (0, 3):
                self.assertRaises(NoMark, fork, keeper, mark, LATER, most)
        keeper.cut(6)
        for mark in (0, 5):
            self.assertRaises(NoMark, fork, keeper, mark, LATER, 3)
        self.check(keeper, ENDLESS, GO, 10, LATER, 3)

    def test_no_mark_goes_ahead_of_too_late(self):
        keeper = Keeper(ENDLESS, GO, 5)
        keeper.run(12)
        early = (0, 0, 0, "go", 0, 0)
        self.assertRaises(TooLate, fork, keeper, 10, early, 3)
        for mark in (6, 11, 12, 15):
            self.assertRaises(NoMark, fork, keeper, mark, early, 3)
        keeper.cut(11)
        self.assertRaises(NoMark, fork, keeper, 10, early, 3)


class Apart(Forking):
    def marked(self):
        keeper = Keeper(shop(), SHOP, 3)
        keeper.run(14)
        return keeper

    def all_of(self, keeper):
        sign = (900, 0, 1, "serve", 0, 0)
        return copy.deepcopy([(keeper.go_on(mark, 40), fork(keeper, mark, sign, 40)) for mark in keeper.marks()])

    def test_forks_know_nothing_of_one_another(self):
        keeper = self.marked()
        for mark in keeper.marks():
            for sign in ((90, 0, 1, "come", 0, 0), (90, 0, 0, "deaf", 0, 0), (91, 0, 1, "come", 0, 0)):
                # Each is the fifth of the list, whatever was forked before.
                self.assertTrue(self.check(keeper, shop(), SHOP, mark, sign, 60))

    def test_the_keeper_stays(self):
        keeper = self.marked()
        before = self.all_of(keeper)
        for mark in keeper.marks()[1:]:
            fork(keeper, mark, (90, 0, 1, "come", 0, 0), 30)
            self.assertRaises(TooLate, fork, keeper, mark, (0, 0, 1, "come", 0, 0), 30)
        self.assertEqual(self.all_of(keeper), before)
        self.assertEqual(keeper.marks(), [0, 3, 6, 9, 12])
        self.assertEqual(parts_of(keeper.run(30)), parts_of(plain(shop(), SHOP, 30)))

    def test_changing_what_is_told(self):
        keeper = self.marked()
        before = self.all_of(keeper)
        for mark in keeper.marks():
            told = fork(keeper, mark, (900, 0, 1, "serve", 0, 0), 40)
            for record in told[0]:
                for write in record[5]:
                    if isinstance(write[1], list):
                        write[1].append(99)
                record[5].clear()
                record[6].append(7)
            told[0].clear()
        self.assertEqual(self.all_of(keeper), before)


if __name__ == "__main__":
    unittest.main()
