"""The desk's journal, and desks that are made of one."""

import copy
import random
import unittest

from momentloom.desk import Desk, desk_of
from momentloom.errors import MomentError, NoModel, NoRoom, NoText
from momentloom.modeltext import model_text

from samples import GO, chain, lively_machines, lively_signs, shop

SHOP = [(0, 0, 0, "open", 0, 0), (3, 4, 1, "come", 2, 0), (3, 4, 1, "come", 1, 0), (2, 0, 1, "serve", 0, 0)]
SHOP_TEXT = model_text(shop().machines)
CHAIN_TEXT = model_text(chain(6, []).machines)


def loaded(text, signs):
    desk = Desk()
    desk.load(text)
    for sign in signs:
        desk.sign(*sign)
    return desk


def journal_for(text, signs):
    return [("load", text)] + [("sign",) + sign for sign in signs]


def refused_jobs(desk):
    """Jobs that are refused, some of them only where no model is there."""
    for job in (lambda: desk.load("x"), lambda: desk.load(""), lambda: desk.check("x"), lambda: desk.check("")):
        try:
            job()
        except MomentError:
            continue
        raise AssertionError("not refused")


def answers(desk, machines):
    """What a desk answers to each job that changes nothing, as far as the text of its model names something."""
    found = [desk.run(most) for most in (0, 1, 5, 40)]
    found += [desk.parts([at % 2 for at in range(len(machines))], ahead, [3, 1, 4, 1, 5], 20) for ahead in (None, 0, 5)]
    for at, machine in enumerate(machines):
        found += [desk.why(k, at, box[0]) for box in machine[1] for k in (0, 7, 30)]
    found += [desk.check(text) for text in ("cut", "empty", desk.run(9), desk.run(40))]
    return found + [desk.journal()]


class Journal(unittest.TestCase):
    def test_before_any_loading(self):
        desk = Desk()
        self.assertEqual(desk.journal(), [])
        for job in (lambda: desk.load("x"), lambda: desk.sign(*SHOP[0]), lambda: desk.run(3), lambda: desk.check("x")):
            with self.assertRaises(MomentError):
                job()
            self.assertEqual(desk.journal(), [])

    def test_behind_a_loading(self):
        self.assertEqual(loaded(SHOP_TEXT, []).journal(), [("load", SHOP_TEXT)])
        self.assertEqual(loaded("machine m", []).journal(), [("load", "machine m")])

    def test_behind_signs(self):
        desk = loaded(SHOP_TEXT, [])
        for count in range(len(SHOP)):
            desk.sign(*SHOP[count])
            self.assertEqual(desk.journal(), journal_for(SHOP_TEXT, SHOP[:count + 1]))
        self.assertEqual(desk.journal()[2], ("sign", 3, 4, 1, "come", 2, 0))

    def test_only_from_the_last_loading_on(self):
        desk = loaded(SHOP_TEXT, SHOP)
        desk.load(CHAIN_TEXT)
        self.assertEqual(desk.journal(), [("load", CHAIN_TEXT)])
        desk.sign(*GO[0])
        self.assertEqual(desk.journal(), journal_for(CHAIN_TEXT, GO))
        desk.load(CHAIN_TEXT)
        self.assertEqual(desk.journal(), [("load", CHAIN_TEXT)])

    def test_behind_refused_jobs(self):
        for signs in ([], SHOP, SHOP * 5):
            desk = loaded(SHOP_TEXT, signs)
            refused_jobs(desk)
            self.assertEqual(desk.journal(), journal_for(SHOP_TEXT, signs))
        with self.assertRaises(NoRoom):
            desk.sign(*SHOP[0])
        self.assertEqual(desk.journal(), journal_for(SHOP_TEXT, SHOP * 5))

    def test_other_jobs_are_not_in_it(self):
        desk = loaded(SHOP_TEXT, SHOP)
        answers(desk, shop().machines)
        self.assertEqual(desk.journal(), journal_for(SHOP_TEXT, SHOP))

    def test_changing_the_told_list_changes_nothing(self):
        desk = loaded(SHOP_TEXT, SHOP)
        before = answers(desk, shop().machines)
        told = desk.journal()
        told.append(("sign", 0, 0, 0, "open", 0, 0))
        told[0] = ("load", CHAIN_TEXT)
        desk.journal().clear()
        self.assertEqual(answers(desk, shop().machines), before)
        other = Desk()
        other.journal().append(("load", SHOP_TEXT))
        self.assertEqual(other.journal(), [])

    def test_what_is_done_later_does_not_change_the_told_list(self):
        desk = loaded(SHOP_TEXT, SHOP[:1])
        told = desk.journal()
        desk.sign(*SHOP[1])
        self.assertEqual(told, journal_for(SHOP_TEXT, SHOP[:1]))
        desk.load(CHAIN_TEXT)
        self.assertEqual(told, journal_for(SHOP_TEXT, SHOP[:1]))


class Made(unittest.TestCase):
    def check_made(self, desk, machines):
        other = desk_of(desk.journal())
        self.assertIsInstance(other, Desk)
        self.assertEqual(answers(other, machines), answers(desk, machines))
        return other

    def test_of_no_loading(self):
        desk = desk_of([])
        self.assertIsInstance(desk, Desk)
        self.assertEqual(desk.journal(), [])
        for job in (lambda: desk.sign(*SHOP[0]), lambda: desk.run(3), lambda: desk.check("x")):
            with self.assertRaises(NoModel):
                job()
        desk.load(SHOP_TEXT)
        self.assertEqual(desk.journal(), [("load", SHOP_TEXT)])

    def test_answers_as_that_desk(self):
        for count in range(len(SHOP) + 1):
            self.check_made(loaded(SHOP_TEXT, SHOP[:count]), shop().machines)

    def test_answers_as_that_desk_with_many_models(self):
        chance = random.Random(34)
        for turn in range(15):
            machines = lively_machines(chance, 3)
            self.check_made(loaded(model_text(machines), lively_signs(chance, 3)), machines)

    def test_behind_several_loadings_and_refused_jobs(self):
        desk = loaded(CHAIN_TEXT, GO)
        desk.load(SHOP_TEXT)
        refused_jobs(desk)
        for sign in SHOP:
            desk.sign(*sign)
            refused_jobs(desk)
        self.check_made(desk, shop().machines)

    def test_behind_a_further_sign_for_both(self):
        desk = loaded(SHOP_TEXT, SHOP[:2])
        other = self.check_made(desk, shop().machines)
        for sign in SHOP[2:]:
            self.assertEqual(other.sign(*sign), desk.sign(*sign))
            self.assertEqual(answers(other, shop().machines), answers(desk, shop().machines))

    def test_with_20_signs(self):
        desk = loaded(SHOP_TEXT, SHOP * 5)
        other = self.check_made(desk, shop().machines)
        with self.assertRaises(NoRoom):
            other.sign(*SHOP[0])
        desk = loaded(SHOP_TEXT, (SHOP * 5)[:19])
        other = self.check_made(desk, shop().machines)
        self.assertEqual(other.sign(*SHOP[3]), 19)

    def test_changing_one_desk_does_not_change_the_other(self):
        desk = loaded(SHOP_TEXT, SHOP[:2])
        other = desk_of(desk.journal())
        before = answers(desk, shop().machines)
        other.sign(*SHOP[2])
        self.assertEqual(answers(desk, shop().machines), before)
        other.load(CHAIN_TEXT)
        self.assertEqual(answers(desk, shop().machines), before)
        other = desk_of(desk.journal())
        desk.sign(*SHOP[3])
        desk.load(CHAIN_TEXT)
        self.assertEqual(answers(other, shop().machines), before)

    def test_the_handed_list_stays_and_changing_it_changes_nothing(self):
        journal = journal_for(SHOP_TEXT, SHOP)
        kept = copy.deepcopy(journal)
        desk = desk_of(journal)
        before = answers(desk, shop().machines)
        desk.sign(*SHOP[0])
        self.assertEqual(journal, kept)
        desk = desk_of(journal)
        journal.pop()
        journal[0] = ("load", CHAIN_TEXT)
        journal.append(("sign", 0, 0, 0, "go", 0, 0))
        self.assertEqual(answers(desk, shop().machines), before)

    def test_a_model_with_names_that_are_not_there(self):
        text = "machine m\n  on a\n    put none 1\n    send 5 b 0 1 0 0"
        desk = loaded(text, [(0, 0, 0, "a", 0, 0)])
        self.assertEqual(desk_of(desk.journal()).journal(), desk.journal())

    def test_a_loading_that_is_none(self):
        with self.assertRaises(NoText):
            desk_of([("load", "x")])


if __name__ == "__main__":
    unittest.main()
