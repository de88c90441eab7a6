"""The desk: each job tells what the modules tell, and a refused job changes nothing."""

import random
import unittest
from unittest import mock

from momentloom.booktext import book_text
from momentloom.desk import Desk
from momentloom.errors import MomentError, NoModel, NoRoom, NoText
from momentloom.hall import Hall
from momentloom.lookers import is_book
from momentloom.model import Model
from momentloom.modeltext import model_text
from momentloom.plain import plain
from momentloom.reasons import reasons

from samples import GO, chain, everything, lively_machines, lively_signs, number, send, shop

SHOP = [(0, 0, 0, "open", 0, 0), (3, 4, 1, "come", 2, 0), (3, 4, 1, "come", 1, 0), (2, 0, 1, "serve", 0, 0)]
SHOP_TEXT = model_text(shop().machines)
BAD = "machine m\n  box x 1\n  on a\n    if 1"
MOSTS = (0, 1, 2, 7, 20, 1000)
ENDED = chain(6, [("end",), send(0, "go", 1)])
FAULTY = chain(6, [send(0, "bad", 1)])
EMPTIED = chain(6, [])


def desk_with(machines, signs):
    desk = Desk()
    desk.load(model_text(machines))
    for sign in signs:
        desk.sign(*sign)
    return desk


def plain_text(model, signs, most):
    book = plain(model, signs, most)
    return book_text(book.records, book.ending)


class Loading(unittest.TestCase):
    def test_nothing_is_told(self):
        desk = Desk()
        self.assertIsNone(desk.load("machine m"))
        self.assertIsNone(desk.load(SHOP_TEXT))

    def test_a_text_that_is_none(self):
        desk = Desk()
        for text, line in ((BAD, 5), ("", 1), ("machine m\n", 2), ("x", 1), (SHOP_TEXT + "\nx", 25)):
            with self.assertRaises(NoText) as caught:
                desk.load(text)
            self.assertEqual(caught.exception.line, line)

    def test_a_refused_loading_changes_nothing(self):
        desk = desk_with(shop().machines, SHOP)
        text = desk.run(20)
        for bad in (BAD, "", "x"):
            with self.assertRaises(NoText):
                desk.load(bad)
            self.assertEqual(desk.run(20), text)
            self.assertEqual(desk.journal(), [("load", SHOP_TEXT)] + [("sign",) + sign for sign in SHOP])
        self.assertEqual(desk.sign(9, 0, 0, "open", 0, 0), 4)

    def test_loading_anew_takes_the_model_and_forgets_the_signs(self):
        desk = desk_with(shop().machines, SHOP)
        desk.load(model_text(EMPTIED.machines))
        self.assertEqual(desk.run(1000), "empty")
        self.assertEqual(desk.sign(*GO[0]), 0)
        self.assertEqual(desk.run(1000), plain_text(EMPTIED, GO, 1000))

    def test_loading_the_same_anew_forgets_the_signs(self):
        desk = desk_with(shop().machines, SHOP)
        desk.load(SHOP_TEXT)
        self.assertEqual(desk.run(1000), "empty")

    def test_a_model_in_whose_deeds_something_is_named_that_is_not_there(self):
        desk = Desk()
        for text in (
                model_text(everything()), "machine m\n  on a\n    put x 1\n    send 5 b 0 1 0 0",
                "machine m\n  on a\n    push q .x\n    pull r y\n      draw z #w"):
            desk.load(text)
            self.assertEqual(desk.sign(0, 0, 0, "a", 0, 0), 0)
            self.assertEqual(desk.journal(), [("load", text), ("sign", 0, 0, 0, "a", 0, 0)])


class Signs(unittest.TestCase):
    def test_places(self):
        desk = desk_with(shop().machines, [])
        for place in range(20):
            self.assertEqual(desk.sign(place % 3, 0, 0, "open", 0, 0), place)

    def test_the_21st(self):
        signs = [
            (place % 3, place % 10, place % 2, "come" if place % 2 else "open", place, -place) for place in range(20)]
        desk = desk_with(shop().machines, signs)
        text = plain_text(shop(), signs, 30)
        for turn in range(3):
            with self.assertRaises(NoRoom):
                desk.sign(0, 0, 0, "open", 7, 7)
            self.assertEqual(desk.run(30), text)
            self.assertEqual(len(desk.journal()), 21)

    def test_room_again_behind_a_loading(self):
        desk = desk_with(shop().machines, [(0, 0, 0, "open", 0, 0)] * 20)
        desk.load(SHOP_TEXT)
        for place in range(20):
            self.assertEqual(desk.sign(0, 0, 0, "open", 0, 0), place)
        with self.assertRaises(NoRoom) as caught:
            desk.sign(0, 0, 0, "open", 0, 0)
        self.assertIsInstance(caught.exception, MomentError)

    def test_each_number_and_the_name_are_at_their_places(self):
        model = Model([
            ("m", [], [], [], []), ("n", [("x", 0), ("y", 0)], [], [], [
                ("hear", [("put", "x", ("got", 0)), ("put", "y", ("got", 1))])])])
        desk = desk_with(model.machines, [])
        desk.sign(time=7, rank=3, to=1, name="hear", g=5, h=-6)
        self.assertEqual(desk.run(10), "at 7 3 -1 0 1 hear 5 -6\n  box x 5\n  box y -6\nempty")

    def test_edges(self):
        signs = [(10 ** 6, 9, 0, "abcdef", 10 ** 15, -(10 ** 15)), (0, 0, 0, "a", 0, 0)]
        desk = desk_with([("m", [], [], [], [])], signs)
        self.assertEqual(desk.run(10), (
            "at 0 0 -1 1 0 a 0 0\nat 1000000 9 -1 0 0 abcdef 1000000000000000 -1000000000000000\nempty"))


class Running(unittest.TestCase):
    def test_the_plain_runs_text(self):
        for model, signs in ((shop(), SHOP), (ENDED, GO), (FAULTY, GO), (EMPTIED, GO), (EMPTIED, [])):
            desk = desk_with(model.machines, signs)
            for most in MOSTS + (6, 6, 5):
                self.assertEqual(desk.run(most), plain_text(model, signs, most))

    def test_each_ending(self):
        for model, signs, most, last in (
                (ENDED, GO, 9, "end 5 0 0 4"), (FAULTY, GO, 9, "fault nought 6 0 0 5"), (EMPTIED, GO, 9, "empty"),
                (EMPTIED, GO, 2, "cut"), (EMPTIED, [], 0, "empty"), (EMPTIED, GO, 0, "cut")):
            self.assertEqual(desk_with(model.machines, signs).run(most).split("\n")[-1], last)

    def test_a_run_takes_the_signs_that_are_there(self):
        desk = desk_with(shop().machines, [])
        for count in range(len(SHOP) + 1):
            self.assertEqual(desk.run(30), plain_text(shop(), SHOP[:count], 30))
            if count < len(SHOP):
                desk.sign(*SHOP[count])


class Parts(unittest.TestCase):
    def check_parts(self, model, signs, partings, mosts):
        desk = desk_with(model.machines, signs)
        for parting in partings:
            for ahead in (None, 0, 1, 10, 10 ** 6):
                for numbers in ([], [0], [1] * 9, [2, 7, 1, 8, 2, 8, 1, 8, 2, 8], list(range(60))):
                    most = mosts[(sum(numbers) + len(numbers)) % len(mosts)]
                    self.assertEqual(desk.parts(parting, ahead, numbers, most), plain_text(model, signs, most))

    def test_the_plain_runs_text(self):
        self.check_parts(shop(), SHOP, ([0, 0], [0, 1], [5, 2], [3, 3]), MOSTS[:5])
        for model in (ENDED, FAULTY, EMPTIED):
            self.check_parts(model, GO, ([0], [5]), (0, 5, 6, 7, 1000))

    def test_the_plain_runs_text_of_many_models(self):
        chance = random.Random(32)
        for turn in range(12):
            model = Model(lively_machines(chance, 3))
            signs = lively_signs(chance, 3)
            self.check_parts(model, signs, ([0, 1, 2], [4, 1, 4]), (0, 3, 25))

    def test_the_hall_is_made_stepped_and_finished_as_told(self):
        told = []

        class Seen(Hall):
            def __init__(self, model, signs, parting, ahead):
                told.append(("hall", model.machines, list(signs), parting, ahead))
                Hall.__init__(self, model, signs, parting, ahead)

            def step(self, number):
                told.append(("step", number))
                return Hall.step(self, number)

            def finish(self, most):
                told.append(("finish", most))
                return Hall.finish(self, most)

        desk = desk_with(shop().machines, SHOP)
        with mock.patch("momentloom.desk.Hall", Seen):
            text = desk.parts([1, 0], 3, [5, 0, 2], 12)
        self.assertEqual(text, plain_text(shop(), SHOP, 12))
        self.assertEqual(told, [
            ("hall", shop().machines, SHOP, [1, 0], 3), ("step", 5), ("step", 0), ("step", 2), ("finish", 12)])

    def test_each_time_a_hall_of_its_own(self):
        desk = desk_with(shop().machines, SHOP)
        for most in (30, 3, 30, 0):
            self.assertEqual(desk.parts([0, 1], None, [1, 2, 3], most), plain_text(shop(), SHOP, most))
        self.assertEqual(desk.run(30), plain_text(shop(), SHOP, 30))

    def test_what_is_handed_in_is_not_changed(self):
        parting, numbers = [0, 1], [3, 1, 2]
        desk_with(shop().machines, SHOP).parts(parting, 5, numbers, 20)
        self.assertEqual((parting, numbers), ([0, 1], [3, 1, 2]))


class Why(unittest.TestCase):
    def check_why(self, model, signs, counts):
        desk = desk_with(model.machines, signs)
        found = []
        for k in counts:
            records = plain(model, signs, k).records
            for at, machine in enumerate(model.machines):
                for box, worth in machine[1]:
                    told = desk.why(k, at, box)
                    self.assertEqual(told, reasons(model, records, len(records), at, box))
                    found.append(told)
        return found

    def test_reasons_behind_so_many_records(self):
        found = self.check_why(shop(), SHOP, range(30))
        self.assertIn([], found)
        self.assertGreater(max(len(told) for told in found), 5)

    def test_more_records_than_there_are(self):
        desk = desk_with(EMPTIED.machines, GO)
        self.assertEqual(desk.why(1000, 0, "n"), [0, 1, 2, 3, 4, 5])
        self.assertEqual(desk.why(3, 0, "n"), [0, 1, 2])
        self.assertEqual(desk.why(0, 0, "n"), [])
        self.check_why(FAULTY, GO, (0, 5, 6, 7, 1000))
        self.check_why(ENDED, GO, (0, 5, 6, 7, 1000))

    def test_many_models(self):
        chance = random.Random(33)
        for turn in range(20):
            self.check_why(Model(lively_machines(chance, 3)), lively_signs(chance, 3), (1, 9, 30))

    def test_what_is_told_is_the_askers_own(self):
        desk = desk_with(EMPTIED.machines, GO)
        desk.why(1000, 0, "n").clear()
        self.assertEqual(desk.why(1000, 0, "n"), [0, 1, 2, 3, 4, 5])


class Check(unittest.TestCase):
    def test_books(self):
        for model, signs in ((shop(), SHOP), (ENDED, GO), (FAULTY, GO), (EMPTIED, GO), (EMPTIED, [])):
            desk = desk_with(model.machines, signs)
            for most in MOSTS + (5, 6):
                self.assertIs(desk.check(desk.run(most)), True)
                self.assertIs(desk.check(desk.parts([0] * len(model.machines), None, [], most)), True)

    def test_what_is_no_book(self):
        desk = desk_with(EMPTIED.machines, GO)
        lines = desk.run(1000).split("\n")
        others = [lines[:-1] + [ending] for ending in ("cut", "end 5 0 0 4", "fault nought 5 0 0 4")]
        others += [["empty"], ["at 99999999999999999999 -5 7 8 -9 abc 1 2", "  queue nobox 1 2", "cut"]]
        others += [lines[:4] + ["empty"], lines[3:], [lines[0].replace(" go ", " do ")] + lines[1:]]
        for other in others:
            self.assertIs(desk.check("\n".join(other)), False, other)

    def test_each_line_left_out_or_said_twice(self):
        desk = desk_with(shop().machines, SHOP)
        lines = desk.run(8).split("\n")
        for place in range(len(lines) - 1):
            for other in (lines[:place] + lines[place + 1:], lines[:place] + [lines[place]] + lines[place:]):
                try:
                    told = desk.check("\n".join(other))
                except NoText:
                    # Without the first line of a record, its writes would stand behind what the one ahead sent.
                    told = False
                self.assertIs(told, False)

    def test_as_the_looker_tells(self):
        records = plain(shop(), SHOP, 12).records
        desk = desk_with(shop().machines, SHOP)
        for count in range(13):
            for ending in (("cut",), ("empty",), ("end", records[-1][0])):
                self.assertIs(
                    desk.check(book_text(records[:count], ending)), is_book(shop(), SHOP, records[:count], ending))

    def test_other_signs_make_another_book(self):
        desk = desk_with(shop().machines, SHOP)
        text = desk.run(12)
        desk.sign(1, 0, 0, "open", 0, 0)
        self.assertIs(desk.check(text), False)

    def test_a_text_that_is_none(self):
        desk = desk_with(shop().machines, SHOP)
        text = desk.run(5)
        behind = len(text.split("\n")) + 1
        for text, line in (("", 1), ("x", 1), ("cut\n", 2), ("at 0 0 0 0 0 a 0 0", 2), (text + "\ncut", behind)):
            with self.assertRaises(NoText) as caught:
                desk.check(text)
            self.assertEqual(caught.exception.line, line)
        self.assertEqual(desk.run(5), plain_text(shop(), SHOP, 5))


class Refusals(unittest.TestCase):
    def jobs(self, desk):
        return [
            lambda: desk.sign(0, 0, 0, "open", 0, 0), lambda: desk.run(5), lambda: desk.run(0),
            lambda: desk.parts([0, 1], None, [1, 2], 5), lambda: desk.parts([], 0, [], 0),
            lambda: desk.why(5, 0, "seen"), lambda: desk.why(0, 9, "none"), lambda: desk.check("cut"),
            lambda: desk.check(""), lambda: desk.check("x\n")]

    def check_no_model(self, desk):
        for job in self.jobs(desk):
            with self.assertRaises(NoModel) as caught:
                job()
            self.assertIsInstance(caught.exception, MomentError)
        self.assertEqual(desk.journal(), [])

    def test_no_model_before_any_loading(self):
        self.check_no_model(Desk())

    def test_no_model_behind_a_refused_loading(self):
        desk = Desk()
        for text in ("", BAD, SHOP_TEXT + "\n"):
            with self.assertRaises(NoText):
                desk.load(text)
            self.check_no_model(desk)

    def test_no_model_goes_ahead_of_no_room(self):
        desk = Desk()
        for turn in range(25):
            with self.assertRaises(NoModel):
                desk.sign(0, 0, 0, "open", 0, 0)

    def test_refused_jobs_leave_nothing_behind(self):
        desk = Desk()
        self.check_no_model(desk)
        desk.load(SHOP_TEXT)
        self.assertEqual(desk.run(5), "empty")
        self.assertEqual(desk.sign(*SHOP[0]), 0)

    def test_desks_share_nothing(self):
        desk, other = Desk(), Desk()
        desk.load(SHOP_TEXT)
        desk.sign(*SHOP[0])
        self.check_no_model(other)
        other.load(SHOP_TEXT)
        self.assertEqual(other.run(10), "empty")


if __name__ == "__main__":
    unittest.main()
