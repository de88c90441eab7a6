"""Whether records and an ending are a book: those of each run are, and no others."""

import copy
import random
import unittest

from momentloom.lookers import is_book
from momentloom.model import Model
from momentloom.plain import plain

from samples import (
    CUT, EMPTY, GO, chain, changed_books, changes, lively_machines, lively_signs, number, send, shop, some_machines,
    some_signs)

SHOP = [(0, 0, 0, "open", 0, 0), (3, 4, 1, "come", 2, 0), (3, 4, 1, "come", 1, 0), (2, 0, 1, "serve", 0, 0)]
END = ("end", (5, 0, 0, 4))
FAULT = ("fault", "nought", (6, 0, 0, 5))
WORDS = ("nought", "great", "full", "dry", "span", "late", "fault")

# Six records, and then each of the endings.
ENDED = chain(6, [("end",), send(0, "go", 1)])
FAULTY = chain(6, [send(0, "bad", 1)])
EMPTIED = chain(6, [])
ENDLESS = chain(10 ** 9, [])


class Books(unittest.TestCase):
    def check_books(self, model, signs, mosts):
        """The book for each number of records is one, and with another ending it is not."""
        for most in mosts:
            records = plain(model, signs, most).records
            due = [plain(model, signs, count) for count in (len(records), len(records) + 1, len(records) + 2)]
            due = [book.ending for book in due if book.records == records]
            self.assertIn(plain(model, signs, most).ending, due)
            for ending in [CUT, EMPTY, END, FAULT] + due:
                self.assertIs(is_book(model, signs, records, ending), ending in due, (most, ending))

    def test_an_end(self):
        self.check_books(ENDED, GO, range(9))
        self.assertTrue(is_book(ENDED, GO, plain(ENDED, GO, 6).records, END))

    def test_a_fault(self):
        self.check_books(FAULTY, GO, range(9))
        records = plain(FAULTY, GO, 100).records
        self.assertTrue(is_book(FAULTY, GO, records, FAULT))
        # Where no more are let, the fault is not come to.
        self.assertTrue(is_book(FAULTY, GO, records, CUT))

    def test_nothing_pending(self):
        self.check_books(EMPTIED, GO, range(9))
        self.assertTrue(is_book(EMPTIED, GO, plain(EMPTIED, GO, 6).records, EMPTY))

    def test_a_cut(self):
        self.check_books(ENDLESS, GO, (0, 1, 2, 50))
        self.assertTrue(is_book(ENDLESS, GO, plain(ENDLESS, GO, 50).records, CUT))
        self.assertTrue(is_book(ENDLESS, GO, plain(ENDLESS, GO, 1000).records, CUT))

    def test_no_records(self):
        self.assertIs(is_book(ENDLESS, GO, [], CUT), True)
        self.assertIs(is_book(ENDLESS, GO, [], EMPTY), False)
        self.assertIs(is_book(ENDLESS, [], [], EMPTY), True)
        self.assertIs(is_book(ENDLESS, [], [], CUT), False)
        bad = [(0, 0, 0, "bad", 0, 0)]
        self.assertIs(is_book(ENDLESS, bad, [], ("fault", "nought", (0, 0, -1, 0))), True)
        self.assertIs(is_book(ENDLESS, bad, [], CUT), True)
        self.assertIs(is_book(ENDLESS, bad, [], EMPTY), False)
        self.assertIs(is_book(ENDED, [(0, 0, 0, "halt", 0, 0)], [], ("end", (0, 0, -1, 0))), False)

    def test_the_shop(self):
        self.check_books(shop(), SHOP, range(40))

    def test_many_models(self):
        chance = random.Random(22)
        endings = {}
        for turn in range(150):
            model = Model(some_machines(chance))
            signs = some_signs(chance)
            for most in (0, chance.randrange(1, 6), 40):
                book = plain(model, signs, most)
                self.assertTrue(is_book(model, signs, book.records, book.ending))
                endings[book.ending[0]] = True
        self.assertEqual(sorted(endings), ["cut", "empty", "end", "fault"])


class Changed(unittest.TestCase):
    def check_changed(self, model, signs, most):
        book = plain(model, signs, most)
        self.assertTrue(is_book(model, signs, book.records, book.ending))
        shorter = book.records[:-1]
        for records in changed_books(book.records):
            # One record fewer is a book too, where it is cut.
            due = book.ending == CUT and records == shorter and book.records != []
            self.assertIs(is_book(model, signs, records, book.ending), due, records)
        return book.ending[0]

    def test_a_record_a_number_a_name_a_list_or_the_order(self):
        found = [self.check_changed(model, GO, 100) for model in (ENDED, FAULTY, EMPTIED)]
        self.assertEqual(found, ["end", "fault", "empty"])
        self.assertEqual(self.check_changed(ENDLESS, GO, 6), "cut")
        self.assertEqual(self.check_changed(shop(), SHOP, 10), "cut")

    def test_in_lists_of_a_queue_and_of_what_was_sent(self):
        model = Model([("m", [("x", 0)], ["q"], [5, 6], [("go", [
            ("push", "q", ("now",)), ("push", "q", ("got", 0)), ("draw", "x", number(9)),
            send(0, "deaf", 3), send(0, "deaf", 4, 2)])])])
        signs = [(0, 0, 0, "go", 3, 4), (1, 0, 0, "go", 5, 6)]
        self.assertEqual(self.check_changed(model, signs, 100), "empty")
        self.assertEqual(self.check_changed(model, signs, 2), "cut")

    def test_the_ending(self):
        for model, ending in ((ENDED, END), (FAULTY, FAULT)):
            records = plain(model, GO, 100).records
            for other in changes(ending[-1]):
                self.assertIs(is_book(model, GO, records, ending[:-1] + (other,)), False)
        records = plain(FAULTY, GO, 100).records
        for word in WORDS:
            self.assertIs(is_book(FAULTY, GO, records, ("fault", word, FAULT[2])), word == "nought")
        self.assertIs(is_book(FAULTY, GO, records, ("end", FAULT[2])), False)
        self.assertIs(is_book(ENDED, GO, plain(ENDED, GO, 100).records, ("fault", "nought", END[1])), False)

    def test_a_cut_one_told_with_another_and_the_other_way_round(self):
        for model, ending in ((ENDED, END), (FAULTY, FAULT), (EMPTIED, EMPTY)):
            records = plain(model, GO, 100).records
            for count in range(6):
                self.assertIs(is_book(model, GO, records[:count], CUT), True)
                self.assertIs(is_book(model, GO, records[:count], ending), False)
            self.assertIs(is_book(model, GO, records, ending), True)
        self.assertIs(is_book(ENDED, GO, plain(ENDED, GO, 6).records, CUT), False)
        self.assertIs(is_book(EMPTIED, GO, plain(EMPTIED, GO, 6).records, CUT), False)
        for ending in (EMPTY, END, FAULT):
            self.assertIs(is_book(ENDLESS, GO, plain(ENDLESS, GO, 6).records, ending), False)

    def test_of_another_model_or_of_other_signs(self):
        records = plain(ENDED, GO, 100).records
        self.assertIs(is_book(ENDED, [], records, END), False)
        self.assertIs(is_book(ENDED, GO + [(900, 0, 0, "go", 0, 0)], records, END), True)
        self.assertIs(is_book(ENDED, [(900, 0, 0, "go", 0, 0)] + GO, records, END), False)
        self.assertIs(is_book(ENDED, GO + [(2, 0, 0, "deaf", 0, 0)], records, END), False)
        self.assertIs(is_book(ENDED, [(0, 0, 0, "go", 0, 1)], records, END), False)
        self.assertIs(is_book(chain(7, [("end",)]), GO, records, END), False)
        self.assertIs(is_book(chain(6, [("end",)]), GO, records, END), False)

    def test_records_that_no_run_tells(self):
        strange = (
            (-5, 77, 12, -3), 40, "nobody", 10 ** 19, -(10 ** 19), [("x", [1, -2]), ("x", 3)],
            [((0, 0, 0, 0), 9, "a", 1, 1)])
        records = plain(ENDED, GO, 100).records
        for ending in (CUT, EMPTY, END, FAULT, ("end", (-1, -1, -1, -1)), ("fault", "dry", (0, 0, 0, 0))):
            for signs in ([], GO):
                for found in ([strange], [strange] * 3, records + [strange], [strange] + records):
                    self.assertIs(is_book(ENDED, signs, found, ending), False)

    def test_lively_models(self):
        chance = random.Random(221)
        for turn in range(20):
            count = chance.randrange(1, 5)
            model = Model(lively_machines(chance, count))
            signs = lively_signs(chance, count)
            book = plain(model, signs, 20)
            self.assertTrue(is_book(model, signs, book.records, book.ending))
            for records in chance.sample(changed_books(book.records), 30):
                due = book.ending == CUT and records == book.records[:-1]
                self.assertIs(is_book(model, signs, records, book.ending), due)


class Apart(unittest.TestCase):
    def test_what_is_handed_in_stays(self):
        model = shop()
        signs = list(SHOP)
        records = plain(model, signs, 20).records
        before = copy.deepcopy(records)
        self.assertTrue(is_book(model, signs, records, CUT))
        self.assertFalse(is_book(model, signs, records, EMPTY))
        self.assertEqual((records, signs, model.machines), (before, SHOP, shop().machines))


if __name__ == "__main__":
    unittest.main()
