"""The plain run: what is pending, the least key first, the endings, and the book."""

import copy
import random
import unittest

from momentloom.deeds import done
from momentloom.errors import Fault
from momentloom.model import Model, State, first_state
from momentloom.plain import Book, pending_at_first, plain

from samples import (
    CUT, EMPTY, GO, GREATEST, NOUGHT, chain, keys_of, number, parts_of, send, shop, some_machines, some_signs, told)


def reference(model, signs, most):
    """The run as the document tells it, with a search of all that is pending at each step."""
    states = [first_state(model, at) for at in range(len(model.machines))]
    pending = {(sign[0], sign[1], -1, place): (sign[2], sign[3], sign[4], sign[5]) for place, sign in enumerate(signs)}
    records = []
    while True:
        if not pending:
            return (records, EMPTY, [told(state) for state in states])
        if len(records) >= most:
            return (records, CUT, [told(state) for state in states])
        key = min(pending)
        happening = (key,) + pending.pop(key)
        try:
            states[happening[1]], record, ends = done(model, states[happening[1]], happening)
        except Fault as fault:
            return (records, ("fault", fault.word(), key), [told(state) for state in states])
        records.append(record)
        pending.update({sent[0]: sent[1:] for sent in record[6]})
        if ends:
            return (records, ("end", key), [told(state) for state in states])


class AtFirst(unittest.TestCase):
    def test_in_the_order_of_the_list(self):
        signs = [(5, 9, 1, "b", 7, -8), (0, 0, 0, "abcdef", GREATEST, -GREATEST), (10 ** 6, 3, 5, "c", 0, 0)]
        self.assertEqual(pending_at_first(signs), [
            ((5, 9, -1, 0), 1, "b", 7, -8), ((0, 0, -1, 1), 0, "abcdef", GREATEST, -GREATEST),
            ((10 ** 6, 3, -1, 2), 5, "c", 0, 0)])

    def test_signs_that_are_alike(self):
        signs = [(5, 2, 0, "a", 1, 2)] * 3
        self.assertEqual(pending_at_first(signs), [((5, 2, -1, place), 0, "a", 1, 2) for place in range(3)])

    def test_none(self):
        self.assertEqual(pending_at_first([]), [])

    def test_twenty_and_somewhat_more(self):
        for count in (20, 21, 25):
            pending = pending_at_first([(count - place, 0, 0, "a", place, 0) for place in range(count)])
            self.assertEqual(pending, [((count - place, 0, -1, place), 0, "a", place, 0) for place in range(count)])

    def test_kinds(self):
        pending = pending_at_first(GO)
        self.assertIs(type(pending), list)
        self.assertEqual([type(field) for field in pending[0]], [tuple, int, str, int, int])

    def test_signs_stay_and_what_is_told_is_the_askers_own(self):
        signs = list(GO)
        pending_at_first(signs).clear()
        self.assertEqual(signs, GO)
        self.assertEqual(len(pending_at_first(signs)), 1)


class Order(unittest.TestCase):
    def deaf(self, machines=2):
        return Model([("abcdef"[at], [], [], [], []) for at in range(machines)])

    def test_outside_signs_by_time(self):
        signs = [(30, 0, 0, "a", 0, 0), (0, 9, 0, "b", 0, 0), (10 ** 6, 0, 1, "c", 0, 0), (4, 5, 1, "d", 0, 0)]
        book = plain(self.deaf(), signs, 100)
        self.assertEqual([record[2] for record in book.records], ["b", "d", "a", "c"])
        self.assertEqual(book.ending, EMPTY)

    def test_like_times_by_rank(self):
        signs = [(7, rank, 0, "abcdefghij"[rank], 0, 0) for rank in (4, 9, 0, 2, 8, 1)]
        book = plain(self.deaf(), signs, 100)
        self.assertEqual([record[0][1] for record in book.records], [0, 1, 2, 4, 8, 9])

    def test_like_times_and_ranks_by_place(self):
        signs = [(7, 3, (place * 7) % 2, "a", 50 - place, 0) for place in range(20)]
        book = plain(self.deaf(), signs, 100)
        self.assertEqual(keys_of(book), [(7, 3, -1, place) for place in range(20)])
        self.assertEqual([record[3] for record in book.records], [50 - place for place in range(20)])

    def test_time_goes_ahead_of_rank_and_rank_ahead_of_place(self):
        signs = [(2, 1, 0, "a", 0, 0), (2, 0, 0, "b", 0, 0), (1, 9, 0, "c", 0, 0)]
        self.assertEqual(keys_of(plain(self.deaf(), signs, 100)), [(1, 9, -1, 2), (2, 0, -1, 1), (2, 1, -1, 0)])

    def test_times_are_ordered_as_numbers(self):
        signs = [(time, 0, 0, "a", 0, 0) for time in (100, 9, 10, 99, 1000)]
        self.assertEqual([key[0] for key in keys_of(plain(self.deaf(), signs, 100))], [9, 10, 99, 100, 1000])

    def test_like_times_and_ranks_by_sender_the_outside_first(self):
        senders = [(name, [], [], [], [("go", [send(3, "hear", 5, 2), send(3, "hear", 5, 2)])]) for name in "abc"]
        model = Model(senders + [("d", [], [], [], [])])
        signs = [(0, 2, 2, "go", 0, 0), (0, 1, 1, "go", 0, 0), (0, 3, 0, "go", 0, 0), (5, 2, 3, "hear", 0, 0)]
        self.assertEqual(keys_of(plain(model, signs, 100))[3:], [
            (5, 2, -1, 3), (5, 2, 0, 0), (5, 2, 0, 1), (5, 2, 1, 0), (5, 2, 1, 1), (5, 2, 2, 0), (5, 2, 2, 1)])

    def test_like_senders_by_count_also_beyond_ten(self):
        model = Model([("a", [], [], [], [("go", [send(1, "hear", 4, 0)] * 12)]), ("b", [], [], [], [])])
        self.assertEqual(keys_of(plain(model, GO, 100))[1:], [(4, 0, 0, count) for count in range(12)])

    def test_what_is_sent_goes_among_what_is_pending(self):
        model = Model([("a", [], [], [], [("go", [send(0, "late", 8), send(0, "soon", 2, 9), send(0, "soon", 2, 1)])])])
        signs = [(5, 0, 0, "mid", 0, 0)] + GO
        self.assertEqual([record[:3] for record in plain(model, signs, 100).records], [
            ((0, 0, -1, 1), 0, "go"), ((2, 1, 0, 2), 0, "soon"), ((2, 9, 0, 1), 0, "soon"),
            ((5, 0, -1, 0), 0, "mid"), ((8, 0, 0, 0), 0, "late")])

    def test_counts_go_on_over_the_whole_run(self):
        book = plain(chain(6, []), GO, 100)
        self.assertEqual(keys_of(book), [(0, 0, -1, 0)] + [(step, 0, 0, step - 1) for step in range(1, 6)])

    def test_draws_go_on_over_the_whole_run(self):
        model = Model([("a", [("x", 0)], [], [3, 8], [("go", [("draw", "x", number(100)), send(0, "go", 1)])])])
        book = plain(model, GO, 5)
        self.assertEqual([record[5] for record in book.records], [[("x", draw)] for draw in (3, 8, 3, 8, 3)])
        self.assertEqual(book.states[0].drawn, 5)


class Endings(unittest.TestCase):
    def test_end(self):
        book = plain(chain(3, [("end",)]), GO, 100)
        self.assertEqual(book.ending, ("end", (2, 0, 0, 1)))
        self.assertEqual(len(book.records), 3)

    def test_end_by_an_outside_sign(self):
        book = plain(chain(9, []), [(4, 5, 0, "halt", 0, 0)] + GO, 100)
        self.assertEqual(book.ending, ("end", (4, 5, -1, 0)))
        self.assertEqual(keys_of(book)[-1], (4, 5, -1, 0))
        self.assertEqual(len(book.records), 6)

    def test_end_goes_ahead_of_empty(self):
        self.assertEqual(plain(chain(1, [("end",)]), GO, 100).ending, ("end", (0, 0, -1, 0)))

    def test_end_keeps_the_record_with_all_of_its_deeds(self):
        book = plain(chain(1, [("end",), send(0, "go", 5), ("push", "q", number(3))]), GO, 100)
        self.assertEqual(book.records[-1][5:], ([("n", 1), ("q", [3])], [((5, 0, 0, 0), 0, "go", 0, 0)]))
        self.assertEqual(told(book.states[0]), ({"n": 1}, {"q": [3]}, 0, 1))

    def test_each_fault_with_its_word(self):
        for deed, word in (
                (("put", "x", NOUGHT), "nought"), (("put", "x", ("plus", number(GREATEST), number(1))), "great"),
                (("push", "q", number(1)), "full"), (("draw", "x", number(1)), "dry"), (send(0, "go", 0), "span")):
            deeds = [("push", "q", number(1))] * (30 if word == "full" else 1) + [deed]
            model = Model([("a", [("x", 0)], ["q"], [], [("go", deeds)])])
            book = plain(model, [(3, 4, 0, "deaf", 0, 0), (9, 2, 0, "go", 0, 0)], 100)
            self.assertEqual(book.ending, ("fault", word, (9, 2, -1, 1)))
            self.assertEqual(keys_of(book), [(3, 4, -1, 0)])

    def test_the_fault_late(self):
        model = Model([("a", [("x", 0)], [], [], [("go", [("put", "x", ("now",)), send(0, "go", 10 ** 6)])])])
        # Far beyond what an outside sign may have, or the last time is not reached.
        book = plain(model, [(10 ** 12 - 10 ** 6 - 5, 0, 0, "go", 0, 0)], 100)
        self.assertEqual(book.ending, ("fault", "late", (10 ** 12 - 5, 0, 0, 0)))
        self.assertEqual(told(book.states[0]), ({"x": 10 ** 12 - 10 ** 6 - 5}, {}, 0, 1))

    def test_a_fault_at_the_first_happening(self):
        book = plain(chain(9, []), [(0, 0, 0, "bad", 0, 0)], 100)
        self.assertEqual(parts_of(book), ([], ("fault", "nought", (0, 0, -1, 0)), [({"n": 0}, {"q": []}, 0, 0)]))

    def test_a_fault_of_a_sent_happening(self):
        book = plain(chain(3, [send(0, "bad", 4, 6)]), GO, 100)
        self.assertEqual(book.ending, ("fault", "nought", (6, 6, 0, 2)))
        self.assertEqual(len(book.records), 3)
        self.assertEqual(told(book.states[0]), ({"n": 3}, {"q": []}, 0, 3))

    def test_a_fault_of_a_happening_with_an_end(self):
        model = Model([("a", [("x", 0)], [], [], [("go", [("end",), ("put", "x", NOUGHT)])])])
        self.assertEqual(
            parts_of(plain(model, GO, 5)), ([], ("fault", "nought", (0, 0, -1, 0)), [({"x": 0}, {}, 0, 0)]))

    def test_empty(self):
        book = plain(chain(4, []), GO, 100)
        self.assertEqual(book.ending, EMPTY)
        self.assertEqual(len(book.records), 4)

    def test_no_outside_signs(self):
        for most in (0, 1, 1000):
            self.assertEqual(parts_of(plain(chain(4, []), [], most)), ([], EMPTY, [({"n": 0}, {"q": []}, 0, 0)]))

    def test_cut(self):
        for most in (1, 2, 7, 50):
            book = plain(chain(10 ** 9, []), GO, most)
            self.assertEqual(book.ending, CUT)
            self.assertEqual(len(book.records), most)
            self.assertEqual(book.states[0].boxes["n"], most)

    def test_cut_with_0_let(self):
        self.assertEqual(parts_of(plain(chain(4, []), GO, 0)), ([], CUT, [({"n": 0}, {"q": []}, 0, 0)]))

    def test_1000_records_and_somewhat_more(self):
        for most in (1000, 1003):
            book = plain(chain(10 ** 9, []), GO, most)
            self.assertEqual((len(book.records), book.ending), (most, CUT))

    def test_a_machine_of_a_long_row_of_pending_ones(self):
        model = Model([("a", [], [], [], [("go", [send(0, "go", 1 + step, step % 10) for step in range(20)])])])
        book = plain(model, GO, 1000)
        self.assertEqual(keys_of(book), sorted(keys_of(book)))
        self.assertEqual(book.states[0].sent, 20000)


class WhichIsDue(unittest.TestCase):
    """Where a run comes to its end with just so many records as are let."""

    def endings(self, model, signs, count):
        return [plain(model, signs, most).ending for most in (count - 1, count, count + 1)]

    def test_end(self):
        ending = ("end", (3, 0, 0, 2))
        self.assertEqual(self.endings(chain(4, [("end",)]), GO, 4), [CUT, ending, ending])
        self.assertEqual(self.endings(chain(4, [("end",), send(0, "go", 1)]), GO, 4), [CUT, ending, ending])

    def test_end_of_the_first_happening(self):
        ending = ("end", (0, 0, -1, 0))
        signs = GO + [(5, 0, 0, "go", 0, 0)]
        self.assertEqual(self.endings(chain(1, [("end",)]), signs, 1), [CUT, ending, ending])

    def test_empty(self):
        self.assertEqual(self.endings(chain(4, []), GO, 4), [CUT, EMPTY, EMPTY])

    def test_fault_is_due_only_where_the_happening_may_be_done(self):
        ending = ("fault", "nought", (4, 0, 0, 3))
        self.assertEqual(self.endings(chain(4, [send(0, "bad", 1)]), GO, 4), [CUT, CUT, ending])

    def test_fault_with_0_let(self):
        self.assertEqual(plain(chain(4, []), [(0, 0, 0, "bad", 0, 0)], 0).ending, CUT)
        self.assertEqual(
            plain(chain(4, []), [(0, 0, 0, "bad", 0, 0)], 1).ending, ("fault", "nought", (0, 0, -1, 0)))

    def test_end_with_0_let(self):
        self.assertEqual(plain(chain(4, []), [(0, 0, 0, "halt", 0, 0)], 0).ending, CUT)


class States(unittest.TestCase):
    def test_one_for_each_machine_in_order(self):
        model = Model([(name, [(name, at)], ["q" + name], [], []) for at, name in enumerate("abcdef")])
        book = plain(model, [], 10)
        self.assertEqual(
            [told(state) for state in book.states],
            [({name: at}, {"q" + name: []}, 0, 0) for at, name in enumerate("abcdef")])

    def test_behind_all_records(self):
        for most in range(40):
            book = plain(shop(), [(0, 0, 0, "open", 0, 0)], most)
            states = [first_state(shop(), at) for at in range(2)]
            for record in book.records:
                states[record[1]] = done(shop(), states[record[1]], record[:5])[0]
            self.assertEqual([told(state) for state in book.states], [told(state) for state in states])

    def test_nothing_of_a_fault(self):
        for most in (3, 4, 5):
            book = plain(chain(3, [send(0, "bad", 1)]), GO, most)
            self.assertEqual(told(book.states[0]), ({"n": 3}, {"q": []}, 0, 3))

    def test_kinds(self):
        book = plain(shop(), [(0, 0, 0, "open", 0, 0)], 5)
        self.assertIs(type(book), Book)
        self.assertEqual([type(book.records), type(book.ending), type(book.states)], [list, tuple, list])
        self.assertEqual([type(state) for state in book.states], [State, State])

    def test_a_book_is_made_of_its_fields(self):
        state = State({}, {}, 0, 0)
        book = Book([1], EMPTY, [state])
        self.assertEqual((book.records, book.ending, book.states), ([1], EMPTY, [state]))


class AsTold(unittest.TestCase):
    def check_same(self, model, signs, most):
        self.assertEqual(parts_of(plain(model, signs, most)), reference(model, signs, most))

    def test_the_shop(self):
        signs = [(3, 4, 1, "serve", 0, 0), (0, 0, 0, "open", 0, 0), (3, 4, 1, "come", 2, 0), (6, 0, 0, "deaf", 1, 2)]
        for count in range(len(signs) + 1):
            for most in range(30):
                self.check_same(shop(), signs[:count], most)
        ending = plain(shop(), signs, 1000).ending
        self.assertEqual(ending[0], "end")

    def test_a_shorter_run_is_a_beginning_of_a_longer_one(self):
        signs = [(0, 0, 0, "open", 0, 0)]
        whole = plain(shop(), signs, 1000).records
        for most in range(len(whole) + 3):
            self.assertEqual(plain(shop(), signs, most).records, whole[:most])

    def test_many_models(self):
        chance = random.Random(8)
        endings = {}
        for turn in range(400):
            model = Model(some_machines(chance))
            signs = some_signs(chance)
            book = plain(model, signs, 60)
            self.assertEqual(parts_of(book), reference(model, signs, 60))
            self.assertEqual(keys_of(book), sorted(set(keys_of(book))))
            endings[book.ending[:-1] or book.ending] = True
        for ending in (("end",), ("fault", "nought"), ("fault", "full"), ("fault", "span"), EMPTY, CUT):
            self.assertIn(ending, endings)


class Apart(unittest.TestCase):
    """The model and the signs stay, and a told book is the asker's own."""

    signs = [(0, 0, 0, "open", 0, 0), (3, 4, 1, "come", 2, 0), (3, 4, 1, "come", 1, 0)]

    def spoil(self, book):
        for record in book.records:
            for write in record[5]:
                if isinstance(write[1], list):
                    write[1].append(99)
            record[5].append(("more", 1))
            record[6].clear()
        for state in book.states:
            state.boxes.clear()
            state.queues.setdefault("line", []).append(98)
            state.sent = 50

    def test_the_model_and_the_signs_stay(self):
        model = shop()
        for most in (0, 1, 5, 1000):
            signs = list(self.signs)
            plain(model, signs, most)
            self.assertEqual(signs, self.signs)
            self.assertEqual(model.machines, shop().machines)

    def test_changing_a_told_book_changes_no_later_one(self):
        model = shop()
        before = copy.deepcopy(parts_of(plain(model, self.signs, 12)))
        book = plain(model, self.signs, 12)
        self.spoil(book)
        book.records.clear()
        book.states.clear()
        self.assertEqual(parts_of(plain(model, self.signs, 12)), before)
        self.assertEqual(model.machines, shop().machines)

    def test_changing_the_records_changes_not_the_states(self):
        book = plain(shop(), self.signs, 12)
        before = copy.deepcopy([told(state) for state in book.states])
        for record in book.records:
            for write in record[5]:
                if isinstance(write[1], list):
                    write[1].append(99)
        self.assertEqual([told(state) for state in book.states], before)

    def test_changing_the_states_changes_not_the_records(self):
        book = plain(shop(), self.signs, 12)
        before = copy.deepcopy(book.records)
        for state in book.states:
            for queue in state.queues.values():
                queue.append(99)
        self.assertEqual(book.records, before)

    def test_no_two_records_share_a_list(self):
        book = plain(shop(), self.signs, 40)
        lists = []
        for record in book.records:
            lists.extend([record[5], record[6]] + [write[1] for write in record[5] if isinstance(write[1], list)])
        self.assertEqual(len({id(found) for found in lists}), len(lists))

    def test_changing_the_signs_behind_the_call(self):
        signs = list(self.signs)
        book = plain(shop(), signs, 12)
        signs.clear()
        self.assertEqual(parts_of(book), parts_of(plain(shop(), self.signs, 12)))


if __name__ == "__main__":
    unittest.main()
