"""Over the whole program: one book, told by each way of running, written, read back, and let by."""

import copy
import random
import unittest

from momentloom.booktext import book_text, read_book, read_signs, signs_text
from momentloom.calendar import Calendar
from momentloom.calrun import by_calendar
from momentloom.desk import Desk, desk_of
from momentloom.forks import fork
from momentloom.hall import Hall
from momentloom.lookers import is_book, shows
from momentloom.marks import Keeper
from momentloom.model import Model
from momentloom.modeltext import model_text, read_model
from momentloom.plain import plain
from momentloom.reasons import reasons
from momentloom.wheel import Wheel

from samples import GO, chain, changed_books, lively_machines, lively_signs, send, shop

SHOP = [(0, 0, 0, "open", 0, 0), (3, 4, 1, "come", 2, 0), (3, 4, 1, "come", 1, 0), (2, 0, 1, "serve", 0, 0)]
SEVERAL = (
    (shop(), SHOP), (chain(6, [("end",), send(0, "go", 1)]), GO), (chain(6, [send(0, "bad", 1)]), GO),
    (chain(6, []), GO), (chain(10 ** 9, []), GO), (shop(), []))
MOSTS = (0, 1, 6, 7, 30)


def text_of(book):
    return book_text(book.records, book.ending)


def halls(model, signs):
    """Halls that went on by some actions, in several partings and with several bounds."""
    count = len(model.machines)
    for parting in ([0] * count, list(range(count)), [5 - at % 2 for at in range(count)]):
        for ahead in (None, 0, 4):
            hall = Hall(model, signs, parting, ahead)
            for number in (3, 1, 4, 1, 5, 9, 2, 6, 5, 3, 5):
                hall.step(number)
            yield hall


def going_on(keeper, most):
    """The texts of the records ahead of each mark with those of going on from there."""
    records = keeper.run(most).records
    for mark in keeper.marks():
        told = keeper.go_on(mark, most - mark)
        yield book_text(records[:mark] + told[0], told[1])


def texts(model, signs, most):
    """The text of one book, by each way of running, and from each mark."""
    yield text_of(plain(model, signs, most))
    for calendar in (Calendar(), Wheel(1), Wheel(7), Wheel(1000)):
        yield text_of(by_calendar(model, signs, most, calendar))
    for hall in halls(model, signs):
        yield text_of(hall.finish(most))
    for every in (1, 4, 50):
        yield text_of(Keeper(model, signs, every).run(most))
        yield from going_on(Keeper(model, signs, every), most)


def desk_texts(model, signs, most):
    desk = Desk()
    desk.load(model_text(model.machines))
    for sign in signs:
        desk.sign(*sign)
    for one in (desk, desk_of(desk.journal())):
        yield one.run(most)
        yield one.parts(list(range(len(model.machines))), 3, [2, 7, 1, 8], most)


class Books(unittest.TestCase):
    def check_one_text(self, model, signs, most):
        found = list(texts(model, signs, most)) + list(desk_texts(model, signs, most))
        self.assertGreater(len(found), 20)
        self.assertEqual(sorted(set(found)), found[:1])
        book = plain(model, signs, most)
        records, ending = read_book(found[0])
        self.assertEqual((records, ending), (book.records, book.ending))
        self.assertIs(is_book(model, signs, records, ending), True)

    def test_several_models(self):
        for model, signs in SEVERAL:
            for most in MOSTS:
                self.check_one_text(model, signs, most)

    def test_many_models(self):
        chance = random.Random(35)
        for turn in range(25):
            model = Model(lively_machines(chance, 1 + turn % 4))
            self.check_one_text(model, lively_signs(chance, 1 + turn % 4), 25)

    def test_models_and_signs_by_their_texts(self):
        chance = random.Random(36)
        for turn in range(40):
            machines, signs = lively_machines(chance, 3), lively_signs(chance, 3)
            model = Model(read_model(model_text(machines)))
            self.assertEqual(
                text_of(plain(model, read_signs(signs_text(signs)), 40)), text_of(plain(Model(machines), signs, 40)))

    def test_a_changed_book_is_written_read_and_not_let_by(self):
        book = plain(shop(), SHOP, 5)
        refused = 0
        for records in changed_books(book.records):
            told = read_book(book_text(records, book.ending))
            self.assertEqual(told, (records, book.ending))
            # Without its last record a book that was cut is a book too.
            due = records == book.records[:len(records)]
            self.assertIs(is_book(shop(), SHOP, told[0], told[1]), due)
            refused += 0 if due else 1
        self.assertGreater(refused, 100)

    def test_a_fork_by_its_text(self):
        keeper = Keeper(shop(), SHOP, 4)
        records = keeper.run(20).records
        sign = (20, 3, 1, "come", 9, 9)
        for mark in keeper.marks()[:4]:
            told = fork(keeper, mark, sign, 20)
            back = read_book(book_text(records[:mark] + told[0], told[1]))
            self.assertIs(is_book(shop(), SHOP + [sign], back[0], back[1]), True)

    def test_reasons_in_a_book_that_was_read(self):
        book = plain(shop(), SHOP, 25)
        records = read_book(text_of(book))[0]
        for at, box in ((0, "seen"), (0, "dice"), (1, "last"), (1, "idle")):
            places = reasons(shop(), records, 25, at, box)
            self.assertEqual(places, reasons(shop(), book.records, 25, at, box))
            self.assertIs(shows(shop(), SHOP, records, 25, at, box, book.states[at].boxes[box], places), True)


class Kept(unittest.TestCase):
    def test_nothing_that_is_handed_in_is_changed(self):
        model, signs = shop(), list(SHOP)
        book = plain(model, signs, 20)
        kept = copy.deepcopy((model.machines, signs, book.records, book.ending))
        list(texts(model, signs, 20))
        list(desk_texts(model, signs, 20))
        text = book_text(book.records, book.ending)
        is_book(model, signs, book.records, book.ending)
        reasons(model, book.records, 20, 1, "last")
        signs_text(signs)
        self.assertEqual((model.machines, signs, book.records, book.ending), kept)
        self.assertEqual(text, text_of(plain(shop(), SHOP, 20)))


if __name__ == "__main__":
    unittest.main()
