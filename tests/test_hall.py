"""A hall at its beginning, what it tells of itself, and that what is told and handed in is the asker's own."""

import copy
import random
import unittest

from momentloom.hall import Hall
from momentloom.model import Model, State
from momentloom.plain import Book, plain

from samples import CUT, EMPTY, GO, chain, lively_machines, parts_of, send, shop
from slowhall import all_of

PARTINGS = ([0, 0, 0], [0, 1, 2], [2, 1, 0], [5, 0, 5], [3, 3, 3], [1, 1, 4], [4, 5, 5])
SIGNS = [(7, 2, 1, "b", 0, 0), (4, 0, 0, "a", 0, 0), (4, 0, 2, "c", 1, 2), (3, 9, 1, "b", 0, 0), (4, 0, 0, "a", 5, 5)]


def deaf(count=3):
    return Model([("abcdef"[at], [], [], [], []) for at in range(count)])


def nothing_done():
    return {"settled": [], "logs": [[]] * 6, "taken back": 0}


class AtFirst(unittest.TestCase):
    def check(self, hall, actions, floor, outcome=None):
        self.assertEqual(all_of(hall), {
            **nothing_done(), "actions": actions, "floor": floor, "over": outcome is not None, "outcome": outcome})

    def test_one_part(self):
        for part in range(6):
            hall = Hall(deaf(), SIGNS, [part] * 3, None)
            self.check(hall, [("do", part, (3, 9, -1, 3))], (3, 9, -1, 3))

    def test_several_parts(self):
        hall = Hall(deaf(), SIGNS, [0, 1, 2], None)
        self.check(
            hall, [("do", 0, (4, 0, -1, 1)), ("do", 1, (3, 9, -1, 3)), ("do", 2, (4, 0, -1, 2))], (3, 9, -1, 3))

    def test_parts_rise_whatever_their_machines_are(self):
        hall = Hall(deaf(), SIGNS, [5, 3, 0], None)
        self.check(
            hall, [("do", 0, (4, 0, -1, 2)), ("do", 3, (3, 9, -1, 3)), ("do", 5, (4, 0, -1, 1))], (3, 9, -1, 3))

    def test_parts_without_a_machine(self):
        hall = Hall(deaf(), SIGNS, [4, 2, 4], None)
        self.check(hall, [("do", 2, (3, 9, -1, 3)), ("do", 4, (4, 0, -1, 1))], (3, 9, -1, 3))

    def test_parts_with_nothing_pending(self):
        hall = Hall(deaf(), SIGNS[:1], [0, 1, 2], None)
        self.check(hall, [("do", 1, (7, 2, -1, 0))], (7, 2, -1, 0))

    def test_six_machines_in_six_parts(self):
        signs = [(5, 0, at, "a", 0, 0) for at in (3, 0, 5, 1, 4, 2)]
        hall = Hall(deaf(6), signs, [5, 4, 3, 2, 1, 0], None)
        places = [2, 4, 0, 5, 3, 1]
        self.check(hall, [("do", part, (5, 0, -1, places[part])) for part in range(6)], (5, 0, -1, 0))

    def test_one_machine(self):
        self.check(Hall(deaf(1), [(0, 0, 0, "a", 0, 0)], [0], None), [("do", 0, (0, 0, -1, 0))], (0, 0, -1, 0))

    def test_no_outside_signs(self):
        for parting in PARTINGS:
            for ahead in (None, 0, 7):
                hall = Hall(deaf(), [], parting, ahead)
                self.check(hall, [], None, EMPTY)
                self.assertIsNone(hall.step(0))
                self.assertIsNone(hall.step(999))
                self.check(hall, [], None, EMPTY)

    def test_no_outside_signs_finished(self):
        for most in (0, 1, 1000):
            hall = Hall(shop(), [], [0, 1], None)
            self.assertEqual(parts_of(hall.finish(most)), parts_of(plain(shop(), [], most)))
            self.check(hall, [], None, EMPTY)

    def test_an_end_or_a_fault_to_come_is_not_known(self):
        for sign in ("halt", "bad"):
            hall = Hall(chain(3, []), [(0, 0, 0, sign, 0, 0)], [2], None)
            self.check(hall, [("do", 2, (0, 0, -1, 0))], (0, 0, -1, 0))

    def test_twenty_signs_and_somewhat_more(self):
        for count in (20, 21, 25):
            signs = [(count - place, 0, place % 3, "a", place, 0) for place in range(count)]
            hall = Hall(deaf(), signs, [1, 0, 1], None)
            self.assertEqual(hall.floor(), (1, 0, -1, count - 1))
            self.assertEqual(len(hall.finish(100).records), count)

    def test_parts_somewhat_beyond_are_not_refused(self):
        hall = Hall(deaf(), SIGNS, [6, 7, 6], None)
        self.assertEqual(hall.actions(), [("do", 6, (4, 0, -1, 1)), ("do", 7, (3, 9, -1, 3))])
        self.assertEqual(hall.step(1), ("do", 7, (3, 9, -1, 3)))
        self.assertEqual((hall.log(7), hall.log(6), hall.log(5)), ([(3, 9, -1, 3)], [], []))


class Kinds(unittest.TestCase):
    def test_what_is_told(self):
        hall = Hall(shop(), [(0, 0, 0, "open", 0, 0)], [0, 1], None)
        for turn in range(30):
            for row in (hall.actions(), hall.settled(), hall.log(0), hall.log(1), hall.log(5)):
                self.assertIs(type(row), list)
            self.assertEqual([type(action) for action in hall.actions()], [tuple] * len(hall.actions()))
            self.assertIs(type(hall.floor()), tuple)
            self.assertIs(hall.over(), False)
            self.assertIsNone(hall.outcome())
            self.assertIs(type(hall.taken_back()), int)
            self.assertIs(type(hall.step(turn)), tuple)

    def test_a_finished_book(self):
        book = Hall(shop(), [(0, 0, 0, "open", 0, 0)], [0, 1], None).finish(5)
        self.assertIs(type(book), Book)
        self.assertEqual([type(book.records), type(book.ending), type(book.states)], [list, tuple, list])
        self.assertEqual([type(state) for state in book.states], [State, State])
        self.assertEqual(book.ending, CUT)

    def test_over(self):
        hall = Hall(deaf(), SIGNS[:1], [0, 1, 2], None)
        hall.step(0)
        self.assertIs(hall.over(), True)
        self.assertEqual((hall.floor(), hall.outcome(), hall.actions(), hall.step(3)), (None, EMPTY, [], None))


def spoil(records):
    for record in records:
        for write in record[5]:
            if isinstance(write[1], list):
                write[1].append(99)
        record[5].append(("more", 1))
        record[6].clear()
    records.clear()


class Apart(unittest.TestCase):
    """What is handed in stays and may be changed behind the call, and what is told is the asker's own."""

    signs = [(0, 0, 0, "open", 0, 0), (3, 4, 1, "come", 2, 0), (3, 4, 1, "come", 1, 0), (2, 0, 1, "serve", 0, 0)]

    def halls(self):
        """One hall after the other, each gone on a little further, and the same one to compare it with."""
        for count in (0, 1, 5, 12, 30):
            pair = [Hall(shop(), self.signs, [0, 1], None) for turn in range(2)]
            for number_told in range(count):
                for hall in pair:
                    hall.step(number_told * 7)
            yield pair

    def check_alike(self, hall, other):
        for turn in range(15):
            self.assertEqual(all_of(hall), all_of(other))
            self.assertEqual(hall.step(turn * 5), other.step(turn * 5))
        self.assertEqual(parts_of(hall.finish(40)), parts_of(other.finish(40)))

    def test_what_is_handed_in_stays(self):
        model = shop()
        signs = list(self.signs)
        parting = [3, 1]
        hall = Hall(model, signs, parting, 4)
        for turn in range(60):
            hall.step(turn)
        hall.finish(50)
        self.assertEqual((signs, parting), (self.signs, [3, 1]))
        self.assertEqual(model.machines, shop().machines)

    def test_changing_what_was_handed_in(self):
        machines = copy.deepcopy(shop().machines)
        model = Model(machines)
        signs = list(self.signs)
        parting = [0, 1]
        hall = Hall(model, signs, parting, None)
        hall.step(0)
        machines.clear()
        signs[0] = (0, 0, 1, "serve", 9, 9)
        signs.pop()
        parting[0] = 1
        parting.append(3)
        model.machines[1][4].clear()
        model.machines.pop()
        other = Hall(shop(), self.signs, [0, 1], None)
        other.step(0)
        self.check_alike(hall, other)

    def test_changing_told_lists(self):
        for hall, other in self.halls():
            hall.actions().clear()
            hall.actions().append(("do", 0, (0, 0, 0, 0)))
            hall.log(0).clear()
            hall.log(1).append((0, 0, 0, 0))
            spoil(hall.settled())
            self.check_alike(hall, other)

    def test_changing_a_told_book(self):
        for hall, other in self.halls():
            for most in (3, 9):
                book = hall.finish(most)
                other.finish(most)
                spoil(book.records)
                for state in book.states:
                    state.boxes.clear()
                    state.queues.setdefault("line", []).append(98)
                    state.sent = 50
                    state.drawn = 3
                book.states.clear()
            self.check_alike(hall, other)

    def test_what_was_told_stays(self):
        for hall, other in self.halls():
            found = [all_of(hall), parts_of(hall.finish(6)), all_of(hall), parts_of(hall.finish(2))]
            before = copy.deepcopy(found)
            for turn in range(40):
                hall.step(turn)
            hall.finish(30)
            self.assertEqual(found, before)

    def test_no_two_told_records_share_a_list(self):
        hall = Hall(shop(), self.signs, [0, 1], None)
        book = hall.finish(40)
        lists = [queue for state in book.states for queue in state.queues.values()]
        for record in book.records + hall.settled() + hall.settled():
            lists.extend([record[5], record[6]] + [write[1] for write in record[5] if isinstance(write[1], list)])
        self.assertEqual(len({id(found) for found in lists}), len(lists))

    def test_asking_changes_nothing(self):
        for hall, other in self.halls():
            for turn in range(3):
                all_of(hall)
            self.check_alike(hall, other)

    def test_two_halls_of_one_model_beside_one_another(self):
        chance = random.Random(3)
        model = Model(lively_machines(chance, 4))
        signs = [(at, 0, at, "abc"[at % 3], at, 0) for at in range(4)]
        first = Hall(model, signs, [0, 1, 2, 3], None)
        for turn in range(50):
            first.step(turn)
        second = Hall(model, signs, [0, 1, 2, 3], None)
        self.assertEqual(second.actions(), [("do", at, (at, 0, -1, at)) for at in range(4)])
        self.assertEqual(parts_of(second.finish(20)), parts_of(plain(model, signs, 20)))
        self.assertEqual(parts_of(first.finish(20)), parts_of(plain(model, signs, 20)))


class OnePart(unittest.TestCase):
    """A hall of one part has no letters and goes as the plain run does."""

    def test_each_step_is_the_plain_runs(self):
        signs = [(0, 0, 0, "open", 0, 0), (3, 4, 1, "come", 2, 0)]
        book = plain(shop(), signs, 1000)
        hall = Hall(shop(), signs, [4, 4], 0)
        for count, record in enumerate(book.records):
            self.assertEqual(hall.actions(), [("do", 4, record[0])])
            self.assertEqual(hall.floor(), record[0])
            self.assertEqual(hall.settled(), book.records[:count])
            self.assertEqual(hall.step(count), ("do", 4, record[0]))
        self.assertEqual((hall.outcome(), hall.taken_back()), (book.ending, 0))
        self.assertEqual(hall.log(4), [record[0] for record in book.records])

    def test_machines_of_one_part_send_no_letters(self):
        model = Model([("a", [], [], [], [("go", [send(1, "go", 1), send(2, "go", 2)])]),
                       ("b", [], [], [], [("go", [send(0, "go", 4)])]), ("c", [], [], [], [])])
        hall = Hall(model, GO, [1, 1, 0], None)
        self.assertEqual(hall.step(0), ("do", 1, (0, 0, -1, 0)))
        self.assertEqual(hall.actions(), [("do", 1, (1, 0, 0, 0)), ("hear", 0, 1, (2, 0, 0, 1), "sign")])
        self.assertEqual(hall.step(0), ("do", 1, (1, 0, 0, 0)))
        self.assertEqual(hall.actions(), [("do", 1, (5, 0, 1, 0)), ("hear", 0, 1, (2, 0, 0, 1), "sign")])


if __name__ == "__main__":
    unittest.main()
