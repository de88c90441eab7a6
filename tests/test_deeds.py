"""Deeds, keys and records: what doing one happening tells, its faults, and that it shares nothing."""

import copy
import unittest

from momentloom.deeds import done
from momentloom.errors import Dry, Fault, Full, Great, Late, Nought, Span
from momentloom.model import Model, State, first_state

GREATEST = 10 ** 15
LAST = 10 ** 12
NOUGHT = ("part", ("number", 1), ("number", 0))
GREAT = ("plus", ("number", GREATEST), ("number", 1))
KEY = (40, 3, -1, 2)
WORDS = {Dry: "dry", Full: "full", Great: "great", Late: "late", Nought: "nought", Span: "span"}


def number(worth):
    return ("number", worth)


def put(box, worth):
    return ("put", box, number(worth))


def send(span=1, rank=0, g=0, h=0, to=0, sign="go"):
    return ("send", to, sign, number(span), rank, number(g), number(h))


def model_of(deeds, draws=(5, 12, 7)):
    """A machine of number 1 that hears "go"; its boxes and queues stand in no order of letters."""
    return Model([
        ("other", [("x", 0)], [], [], []),
        ("mill", [("c", 30), ("a", 10), ("b", 20)], ["r", "q"], list(draws), [("off", [("end",)]), ("go", deeds)])])


def state_of(boxes=None, queues=None, drawn=0, sent=0):
    state = State({"c": 30, "a": 10, "b": 20}, {"r": [], "q": []}, drawn, sent)
    state.boxes.update(boxes or {})
    state.queues.update(queues or {})
    return state


def happening_at(time=40, sign="go", g=8, h=-9):
    return ((time,) + KEY[1:], 1, sign, g, h)


def told(state):
    return (state.boxes, state.queues, state.drawn, state.sent)


class Doing(unittest.TestCase):
    def do(self, deeds, state=None, draws=(5, 12, 7), time=40, sign="go"):
        """Does the deeds in one happening; whatever comes of it, what was handed in must stay."""
        state = state or state_of()
        model = model_of(deeds, draws)
        before = copy.deepcopy((told(state), model.machines))
        try:
            return done(model, state, happening_at(time, sign))
        finally:
            self.assertEqual((told(state), model.machines), before)

    def writes(self, deeds, **handed):
        return self.do(deeds, **handed)[1][5]

    def sent(self, deeds, **handed):
        return self.do(deeds, **handed)[1][6]

    def check(self, deeds, writes, **handed):
        with self.subTest(deeds=deeds, **handed):
            self.assertEqual(self.writes(deeds, **handed), writes)

    def check_fault(self, kind, deeds, **handed):
        with self.subTest(deeds=deeds, **handed):
            with self.assertRaises(Fault) as caught:
                self.do(deeds, **handed)
            self.assertIs(type(caught.exception), kind)
            self.assertEqual(caught.exception.word(), WORDS[kind])


class EachByItself(Doing):
    def test_put(self):
        for formula, worth in (
                (number(5), 5), (("box", "b"), 20), (("plus", ("box", "a"), ("box", "c")), 40), (("got", 0), 8),
                (("got", 1), -9), (("now",), 40), (("long", "q"), 0), (number(-GREATEST), -GREATEST)):
            self.check([("put", "a", formula)], [("a", worth)])

    def test_put_changes_that_box_alone(self):
        state, record, ends = self.do([put("a", 5)])
        self.assertEqual(told(state), ({"c": 30, "a": 5, "b": 20}, {"r": [], "q": []}, 0, 0))
        self.assertEqual(record, (KEY, 1, "go", 8, -9, [("a", 5)], []))
        self.assertIs(ends, False)

    def test_push(self):
        state, record, ends = self.do([("push", "q", ("got", 0))])
        self.assertEqual(told(state), ({"c": 30, "a": 10, "b": 20}, {"r": [], "q": [8]}, 0, 0))
        self.assertEqual(record, (KEY, 1, "go", 8, -9, [("q", [8])], []))
        self.assertIs(ends, False)

    def test_push_goes_behind_the_others(self):
        self.check([("push", "q", number(3))], [("q", [1, 2, 3])], state=state_of(queues={"q": [1, 2]}))

    def test_pull(self):
        state, record, ends = self.do([("pull", "q", "b", [put("a", 99)])], state=state_of(queues={"q": [4, 5, 6]}))
        self.assertEqual(told(state), ({"c": 30, "a": 10, "b": 4}, {"r": [], "q": [5, 6]}, 0, 0))
        self.assertEqual(record[5:], ([("b", 4), ("q", [5, 6])], []))
        self.assertIs(ends, False)

    def test_pull_of_the_last_worth(self):
        self.check([("pull", "q", "b", [("end",)])], [("b", 4), ("q", [])], state=state_of(queues={"q": [4]}))

    def test_pull_of_a_worth_of_0(self):
        self.check([("pull", "q", "b", [put("a", 99)])], [("b", 0), ("q", [])], state=state_of(queues={"q": [0]}))

    def test_pull_from_an_empty_queue(self):
        state, record, ends = self.do([("pull", "q", "b", [put("a", 99)])], state=state_of(queues={"r": [4]}))
        self.assertEqual(told(state), ({"c": 30, "a": 99, "b": 20}, {"r": [4], "q": []}, 0, 0))
        self.assertEqual(record[5:], ([("a", 99)], []))

    def test_pull_from_an_empty_queue_without_deeds(self):
        self.check([("pull", "q", "b", [])], [])

    def test_draw(self):
        state, record, ends = self.do([("draw", "b", number(4))])
        self.assertEqual(told(state), ({"c": 30, "a": 10, "b": 1}, {"r": [], "q": []}, 1, 0))
        self.assertEqual(record[5:], ([("b", 1)], []))
        self.assertIs(ends, False)

    def test_send(self):
        state, record, ends = self.do([("send", 0, "come", number(6), 7, ("got", 1), ("box", "c"))])
        self.assertEqual(told(state), ({"c": 30, "a": 10, "b": 20}, {"r": [], "q": []}, 0, 1))
        self.assertEqual(record[5:], ([], [((46, 7, 1, 0), 0, "come", -9, 30)]))
        self.assertIs(ends, False)

    def test_if(self):
        for worth in (1, -1, 2, GREATEST, -GREATEST):
            self.check([("if", number(worth), [put("a", 1)], [put("b", 2)])], [("a", 1)])
        self.check([("if", number(0), [put("a", 1)], [put("b", 2)])], [("b", 2)])
        self.check([("if", number(1), [], [put("b", 2)])], [])
        self.check([("if", number(0), [put("a", 1)], [])], [])

    def test_end(self):
        state, record, ends = self.do([("end",)])
        self.assertEqual(told(state), told(state_of()))
        self.assertEqual(record, (KEY, 1, "go", 8, -9, [], []))
        self.assertIs(ends, True)

    def test_no_deeds(self):
        state, record, ends = self.do([])
        self.assertEqual(told(state), told(state_of()))
        self.assertEqual(record, (KEY, 1, "go", 8, -9, [], []))
        self.assertIs(ends, False)


class InOrder(Doing):
    def test_a_deed_reads_what_the_ones_ahead_wrote(self):
        self.check([put("a", 1), ("put", "b", ("plus", ("box", "a"), number(1)))], [("a", 1), ("b", 2)])
        self.check([("put", "b", ("plus", ("box", "a"), number(1))), put("a", 1)], [("a", 1), ("b", 11)])
        self.check([("put", "a", ("plus", ("box", "a"), number(1)))] * 3, [("a", 13)])

    def test_queues_first_in_first_out(self):
        deeds = [("push", "q", number(1)), ("push", "q", number(2)), ("pull", "q", "a", []), ("pull", "q", "b", [])]
        self.check(deeds, [("a", 1), ("b", 2), ("q", [])])
        self.check(deeds, [("a", 7), ("b", 1), ("q", [2])], state=state_of(queues={"q": [7]}))

    def test_long_tells_the_queue_as_it_is_then(self):
        self.check(
            [("push", "q", ("long", "q")), ("push", "q", ("long", "q")), ("pull", "q", "a", []),
             ("put", "b", ("long", "q"))],
            [("a", 0), ("b", 1), ("q", [1])])

    def test_two_queues_are_not_mixed(self):
        self.check(
            [("push", "q", number(1)), ("push", "r", number(2)), ("pull", "r", "a", []), ("pull", "r", "b", [])],
            [("a", 2), ("r", []), ("q", [1])])

    def test_deeds_behind_those_within_others(self):
        self.check(
            [("if", number(1), [put("a", 1), put("b", 1)], []), ("put", "b", ("plus", ("box", "b"), ("box", "a")))],
            [("a", 1), ("b", 2)])
        self.check([("pull", "q", "a", [put("a", 1)]), ("put", "b", ("box", "a"))], [("a", 1), ("b", 1)])


class Within(Doing):
    ones = staticmethod(lambda deeds: [("if", number(1), deeds, [])])
    others = staticmethod(lambda deeds: [("if", number(0), [], deeds)])
    pull = staticmethod(lambda deeds: [("pull", "r", "c", deeds)])

    def test_each_sort_of_deed_within_each(self):
        deeds = (
            put("a", 1), ("push", "q", number(2)), ("pull", "q", "b", []), ("draw", "a", number(4)), send(),
            ("if", number(0), [], [put("b", 3)]), ("end",))
        for within in (self.ones, self.others, self.pull):
            for deed in deeds:
                state = state_of(queues={"q": [6]})
                alone = self.do([deed], state=state)
                inside = self.do(within([deed]), state=state)
                with self.subTest(deed=deed):
                    self.assertEqual(told(inside[0]), told(alone[0]))
                    self.assertEqual(inside[1:], alone[1:])

    def test_each_fault_within_each(self):
        for within in (self.ones, self.others, self.pull):
            self.check_fault(Nought, within([("put", "a", NOUGHT)]))
            self.check_fault(Great, within([("put", "a", GREAT)]))
            self.check_fault(Full, within([("push", "q", number(1))]), state=state_of(queues={"q": [0] * 30}))
            self.check_fault(Dry, within([("draw", "a", number(1))]), draws=())
            self.check_fault(Span, within([send(0)]))
            self.check_fault(Late, within([send(1)]), time=LAST)

    def test_five_deep_and_somewhat_more(self):
        for depth in range(2, 9):
            deeds = [("put", "a", ("plus", ("box", "a"), number(1))), send(), ("end",)]
            for level in range(1, depth):
                deeds = (self.ones, self.others, self.pull)[level % 3](deeds)
            state, record, ends = self.do(deeds)
            self.assertEqual(record[5:], ([("a", 11)], [((41, 0, 1, 0), 0, "go", 0, 0)]))
            self.assertIs(ends, True)

    def test_twenty_deeds_and_somewhat_more(self):
        for count in (20, 25):
            self.check([("put", "a", ("plus", ("box", "a"), number(1)))] * count, [("a", 10 + count)])

    def test_what_is_not_done_is_no_fault_and_leaves_no_trace(self):
        bad = [("put", "a", NOUGHT), ("push", "q", GREAT), ("draw", "a", number(0)), send(0), ("end",)]
        full = state_of(queues={"q": [4]})
        for deeds in (
                [("if", number(1), [], bad)], [("if", number(0), bad, [])],
                [("if", number(1), [("if", number(0), bad, [])], bad)]):
            state, record, ends = self.do(deeds, state=full)
            self.assertEqual(told(state), told(full))
            self.assertEqual(record[5:], ([], []))
            self.assertIs(ends, False)
        state, record, ends = self.do([("pull", "q", "b", bad)], state=full)
        self.assertEqual(record[5:], ([("b", 4), ("q", [])], []))
        self.assertIs(ends, False)

    def test_if_reckons_first(self):
        self.check_fault(Nought, [("if", NOUGHT, [], [])])
        self.check_fault(Great, [("if", GREAT, [put("a", 1)], [put("a", 2)])])
        self.check([put("a", 0), ("if", ("box", "a"), [put("b", 1)], [put("b", 2)])], [("a", 0), ("b", 2)])
        self.check([("if", ("box", "a"), [put("a", 0), put("b", 1)], [put("b", 2)])], [("a", 0), ("b", 1)])


class FullQueues(Doing):
    def test_29_takes_one_more(self):
        self.check([("push", "q", number(7))], [("q", [1] * 29 + [7])], state=state_of(queues={"q": [1] * 29}))

    def test_30_takes_none(self):
        self.check_fault(Full, [("push", "q", number(7))], state=state_of(queues={"q": [1] * 30}))

    def test_somewhat_more_takes_none(self):
        self.check_fault(Full, [("push", "q", number(7))], state=state_of(queues={"q": [1] * 31}))

    def test_filled_in_the_happening_itself(self):
        almost = {"q": [1] * 28}
        self.check([("push", "q", number(7))] * 2, [("q", [1] * 28 + [7] * 2)], state=state_of(queues=almost))
        self.check_fault(Full, [("push", "q", number(7))] * 3, state=state_of(queues=almost))

    def test_room_behind_a_pull(self):
        self.check(
            [("pull", "q", "a", []), ("push", "q", number(7))], [("a", 2), ("q", [1] * 29 + [7])],
            state=state_of(queues={"q": [2] + [1] * 29}))

    def test_another_queue_that_is_full_is_no_fault(self):
        self.check([("push", "r", number(7))], [("r", [7])], state=state_of(queues={"q": [1] * 30}))

    def test_f_is_reckoned_first(self):
        full = state_of(queues={"q": [1] * 30})
        self.check_fault(Nought, [("push", "q", NOUGHT)], state=full)
        self.check_fault(Great, [("push", "q", GREAT)], state=full)

    def test_pull_from_a_full_queue(self):
        self.check([("pull", "q", "a", [])], [("a", 1), ("q", [1] * 29)], state=state_of(queues={"q": [1] * 30}))


class Draws(Doing):
    def test_in_order_and_from_the_first_again(self):
        deeds = [("draw", "a", number(100)), ("push", "q", ("box", "a"))] * 8
        state, record, ends = self.do(deeds)
        self.assertEqual(state.queues["q"], [5, 12, 7, 5, 12, 7, 5, 12])
        self.assertEqual(state.drawn, 8)

    def test_counted_on_from_the_states_own_count(self):
        for drawn, draw in ((0, 5), (1, 12), (2, 7), (3, 5), (4, 12), (299, 7), (300, 5)):
            state, record, ends = self.do([("draw", "a", number(100))], state=state_of(drawn=drawn))
            self.assertEqual(record[5], [("a", draw)])
            self.assertEqual(state.drawn, drawn + 1)

    def test_one_draw_alone(self):
        for drawn in (0, 1, 2):
            self.check([("draw", "a", number(100))], [("a", 9)], draws=(9,), state=state_of(drawn=drawn))

    def test_twenty_draws(self):
        draws = tuple(range(50, 70))
        for drawn in (0, 19, 20, 39):
            self.check(
                [("draw", "a", number(100))], [("a", draws[drawn % 20])], draws=draws, state=state_of(drawn=drawn))

    def test_rest_by_f(self):
        for draw, divisor, worth in (
                (12, 5, 2), (12, 1, 0), (12, 12, 0), (12, 13, 12), (0, 5, 0), (GREATEST, GREATEST, 0),
                (GREATEST, 7, GREATEST % 7), (GREATEST - 1, GREATEST, GREATEST - 1)):
            self.check([("draw", "a", number(divisor))], [("a", worth)], draws=(draw,))

    def test_f_is_a_formula(self):
        self.check([("draw", "a", ("box", "a"))], [("a", 2)], draws=(12,))
        self.check([put("a", 7), ("draw", "a", ("box", "a"))], [("a", 5)], draws=(12,))

    def test_no_draws(self):
        for divisor in (1, 2, GREATEST):
            self.check_fault(Dry, [("draw", "a", number(divisor))], draws=())

    def test_f_below_1(self):
        for divisor in (0, -1, -GREATEST):
            self.check_fault(Nought, [("draw", "a", number(divisor))])

    def test_f_below_1_goes_ahead_of_no_draws(self):
        for divisor in (0, -1, -GREATEST):
            self.check_fault(Nought, [("draw", "a", number(divisor))], draws=())

    def test_f_is_reckoned_ahead_of_looking_for_draws(self):
        self.check_fault(Great, [("draw", "a", GREAT)], draws=())
        self.check_fault(Nought, [("draw", "a", NOUGHT)], draws=())
        self.check_fault(Great, [("draw", "a", GREAT)])

    def test_draws_that_are_not_done_are_not_counted(self):
        state = self.do([("if", number(0), [("draw", "a", number(9))], [])])[0]
        self.assertEqual(state.drawn, 0)


class Spans(Doing):
    def test_bounds(self):
        for span in (1, 2, 10 ** 6 - 1, 10 ** 6):
            self.assertEqual(self.sent([send(span)]), [((40 + span, 0, 1, 0), 0, "go", 0, 0)])
        for span in (0, -1, 10 ** 6 + 1, GREATEST, -GREATEST):
            self.check_fault(Span, [send(span)])

    def test_span_is_a_formula(self):
        self.assertEqual(
            self.sent([("send", 1, "go", ("box", "b"), 2, number(3), number(4))]), [((60, 2, 1, 0), 1, "go", 3, 4)])
        self.check_fault(Span, [("send", 1, "go", ("long", "q"), 2, number(3), number(4))])

    def test_span_ahead_of_faults_in_g_and_h(self):
        for span in (0, 10 ** 6 + 1):
            for bad in (NOUGHT, GREAT):
                self.check_fault(Span, [("send", 0, "go", number(span), 0, bad, number(0))])
                self.check_fault(Span, [("send", 0, "go", number(span), 0, number(0), bad)])
                self.check_fault(Span, [("send", 0, "go", number(span), 0, bad, bad)])

    def test_order_of_reckoning(self):
        self.check_fault(Nought, [("send", 0, "go", NOUGHT, 0, GREAT, GREAT)])
        self.check_fault(Great, [("send", 0, "go", GREAT, 0, NOUGHT, NOUGHT)])
        self.check_fault(Nought, [("send", 0, "go", number(1), 0, NOUGHT, GREAT)])
        self.check_fault(Great, [("send", 0, "go", number(1), 0, GREAT, NOUGHT)])
        self.check_fault(Nought, [("send", 0, "go", number(1), 0, number(0), NOUGHT)])
        self.check_fault(Great, [("send", 0, "go", number(1), 0, number(0), GREAT)])


class Lateness(Doing):
    def test_last_time(self):
        self.assertEqual(self.sent([send(5)], time=LAST - 5), [((LAST, 0, 1, 0), 0, "go", 0, 0)])
        self.assertEqual(self.sent([send(10 ** 6)], time=LAST - 10 ** 6), [((LAST, 0, 1, 0), 0, "go", 0, 0)])

    def test_one_more(self):
        self.check_fault(Late, [send(6)], time=LAST - 5)
        self.check_fault(Late, [send(1)], time=LAST)
        self.check_fault(Late, [send(10 ** 6)], time=LAST - 10 ** 6 + 1)

    def test_late_behind_the_faults_of_g_and_h(self):
        self.check_fault(Nought, [("send", 0, "go", number(1), 0, NOUGHT, number(0))], time=LAST)
        self.check_fault(Great, [("send", 0, "go", number(1), 0, number(0), GREAT)], time=LAST)

    def test_span_ahead_of_late(self):
        self.check_fault(Span, [send(10 ** 6 + 1)], time=LAST)
        self.check_fault(Span, [send(0)], time=LAST)

    def test_a_happening_at_the_last_time_that_sends_nothing(self):
        self.check([("put", "a", ("now",))], [("a", LAST)], time=LAST)


class Keys(Doing):
    def test_time_rank_from_and_count(self):
        deeds = [send(5, 9, 1, 2, 0, "abcdef"), send(1, 0, 3, 4, 1, "go"), send(5, 9, 5, 6, 0, "z")]
        self.assertEqual(self.sent(deeds), [
            ((45, 9, 1, 0), 0, "abcdef", 1, 2), ((41, 0, 1, 1), 1, "go", 3, 4), ((45, 9, 1, 2), 0, "z", 5, 6)])

    def test_count_goes_on_from_the_states_own_count(self):
        for sent in (1, 17, 999):
            state, record, ends = self.do([send(), send()], state=state_of(sent=sent))
            self.assertEqual([happening[0] for happening in record[6]], [(41, 0, 1, sent), (41, 0, 1, sent + 1)])
            self.assertEqual(state.sent, sent + 2)

    def test_from_is_the_machines_number(self):
        model = Model([(name, [], [], [], [("go", [send(to=2)])]) for name in ("x", "y", "z")])
        for at in range(3):
            record = done(model, first_state(model, at), ((7, 1, 2, 5), at, "go", 0, 0))[1]
            self.assertEqual(record[6], [((8, 0, at, 0), 2, "go", 0, 0)])

    def test_rank_is_the_deeds_and_not_the_happenings(self):
        for rank in range(10):
            self.assertEqual(self.sent([send(1, rank)])[0][0], (41, rank, 1, 0))

    def test_what_comes_with_it_is_reckoned_then(self):
        deeds = [
            put("a", 1), ("send", 0, "go", number(1), 0, ("box", "a"), ("now",)), put("a", 2),
            ("send", 0, "go", number(1), 0, ("box", "a"), ("got", 1))]
        self.assertEqual([happening[3:] for happening in self.sent(deeds)], [(1, 40), (2, -9)])

    def test_sends_that_are_not_done_are_not_counted(self):
        state, record, ends = self.do([("if", number(0), [send()], []), send()])
        self.assertEqual(record[6], [((41, 0, 1, 0), 0, "go", 0, 0)])
        self.assertEqual(state.sent, 1)

    def test_the_happenings_own_key_stands_in_the_record(self):
        model = model_of([put("a", 1)])
        for key in ((0, 0, -1, 0), (LAST, 9, 5, 1000), (3, 2, 0, 7)):
            record = done(model, state_of(), (key, 1, "go", 6, 5))[1]
            self.assertEqual(record, (key, 1, "go", 6, 5, [("a", 1)], []))


class Signs(Doing):
    def test_a_sign_that_is_not_heard(self):
        state, record, ends = self.do([put("a", 1), ("end",)], sign="come", state=state_of(drawn=4, sent=5))
        self.assertEqual(told(state), told(state_of(drawn=4, sent=5)))
        self.assertEqual(record, (KEY, 1, "come", 8, -9, [], []))
        self.assertIs(ends, False)

    def test_a_machine_that_hears_nothing(self):
        record = done(model_of([put("a", 1)]), State({"x": 0}, {}, 0, 0), (KEY, 0, "go", 1, 2))[1]
        self.assertEqual(record, (KEY, 0, "go", 1, 2, [], []))

    def test_the_deeds_of_the_sign_alone(self):
        model = Model([("m", [("a", 0)], [], [], [
            ("one", [put("a", 1)]), ("two", [put("a", 2)]), ("three", []), ("four", [put("a", 4)])])])
        for sign, writes in (("one", [("a", 1)]), ("two", [("a", 2)]), ("three", []), ("four", [("a", 4)])):
            self.assertEqual(done(model, first_state(model, 0), (KEY, 0, sign, 0, 0))[1][5], writes)

    def test_the_deeds_of_machine_to_alone(self):
        model = Model([
            ("m", [("a", 0)], [], [8], [("go", [put("a", 1)])]),
            ("n", [("a", 0)], [], [9], [("go", [("draw", "a", number(100))])])])
        self.assertEqual(done(model, first_state(model, 0), (KEY, 0, "go", 0, 0))[1][5], [("a", 1)])
        self.assertEqual(done(model, first_state(model, 1), (KEY, 1, "go", 0, 0))[1][5], [("a", 9)])


class Writes(Doing):
    def test_in_the_order_of_boxes_then_queues(self):
        deeds = [
            ("push", "q", number(1)), put("b", 2), ("push", "r", number(3)), put("a", 4), ("draw", "c", number(9))]
        ordered = [("c", 5), ("a", 4), ("b", 2), ("r", [3]), ("q", [1])]
        self.check(deeds, ordered)
        self.check(list(reversed(deeds)), ordered)

    def test_by_the_models_order_and_not_the_states(self):
        state = State({"a": 1, "b": 2, "c": 3}, {"q": [], "r": []}, 0, 0)
        self.check([put("a", 4), put("c", 5), ("push", "q", number(6)), ("push", "r", number(7))],
                   [("c", 5), ("a", 4), ("r", [7]), ("q", [6])], state=state)

    def test_what_is_held_in_the_end(self):
        self.check([put("a", 1), put("b", 2), put("a", 3)], [("a", 3), ("b", 2)])
        self.check([("draw", "a", number(100)), ("draw", "a", number(100))], [("a", 12)])
        self.check([("push", "q", number(1)), ("push", "q", number(2))], [("q", [1, 2])])

    def test_the_worth_that_it_had(self):
        self.check([put("a", 10)], [("a", 10)])
        self.check([put("a", 11), put("a", 10)], [("a", 10)])
        self.check([("draw", "a", number(100))], [("a", 10)], draws=(10,))
        self.check([("pull", "q", "a", [])], [("a", 10), ("q", [])], state=state_of(queues={"q": [10]}))

    def test_a_queue_that_is_in_the_end_as_it_was(self):
        self.check([("push", "q", number(1)), ("pull", "q", "a", [])], [("a", 1), ("q", [])])
        self.check(
            [("push", "q", number(7)), ("pull", "q", "a", [])], [("a", 7), ("q", [7])],
            state=state_of(queues={"q": [7]}))

    def test_a_pull_that_took_nothing(self):
        self.check([("pull", "q", "a", [])], [])
        self.check([("pull", "q", "a", [put("b", 1)])], [("b", 1)])
        self.check([("pull", "q", "a", []), ("push", "q", number(1))], [("q", [1])])

    def test_what_is_only_read(self):
        self.check([("put", "a", ("plus", ("box", "b"), ("long", "q")))], [("a", 20)])
        self.check([("if", ("box", "b"), [], []), ("if", ("long", "q"), [], [])], [])

    def test_kinds(self):
        state, record, ends = self.do([put("a", 1), ("push", "q", number(2)), send(), ("end",)])
        self.assertIs(type(state), State)
        self.assertEqual([type(field) for field in record], [tuple, int, str, int, int, list, list])
        self.assertEqual([type(write) for write in record[5]], [tuple, tuple])
        self.assertEqual([type(write[1]) for write in record[5]], [int, list])
        self.assertEqual([type(field) for field in record[6][0]], [tuple, int, str, int, int])
        self.assertEqual([type(field) for field in told(state)], [dict, dict, int, int])


class Ends(Doing):
    def test_deeds_behind_an_end_are_done(self):
        state, record, ends = self.do([put("a", 1), ("end",), put("b", 2), send(), ("push", "q", number(3))])
        self.assertEqual(record[5:], ([("a", 1), ("b", 2), ("q", [3])], [((41, 0, 1, 0), 0, "go", 0, 0)]))
        self.assertIs(ends, True)

    def test_deeds_behind_an_end_within_others_are_done(self):
        deeds = [("if", number(1), [("end",), put("a", 1)], []), ("pull", "q", "c", [("end",), put("b", 2)])]
        state, record, ends = self.do(deeds)
        self.assertEqual(record[5], [("a", 1), ("b", 2)])
        self.assertIs(ends, True)

    def test_two_ends(self):
        self.assertIs(self.do([("end",), ("end",)])[2], True)

    def test_an_end_that_is_not_done(self):
        self.assertIs(self.do([("if", number(0), [("end",)], []), ("if", number(1), [], [("end",)])])[2], False)

    def test_a_fault_behind_an_end(self):
        self.check_fault(Nought, [("end",), ("put", "a", NOUGHT)])

    def test_the_end_of_another_sign(self):
        self.assertIs(self.do([], sign="go")[2], False)
        self.assertIs(self.do([], sign="off")[2], True)


class Apart(Doing):
    """What is handed in stays, and nothing that is told is shared."""

    deeds = [
        put("a", 1), ("push", "q", number(2)), ("pull", "r", "b", []), ("draw", "c", number(9)), send(3), ("end",)]

    def state(self):
        return state_of(queues={"q": [1], "r": [5, 6]}, drawn=2, sent=3)

    def answer(self):
        return (
            ({"c": 7, "a": 1, "b": 5}, {"r": [6], "q": [1, 2]}, 3, 4),
            (KEY, 1, "go", 8, -9, [("c", 7), ("a", 1), ("b", 5), ("r", [6]), ("q", [1, 2])],
             [((43, 0, 1, 3), 0, "go", 0, 0)]),
            True)

    def spoil(self, state):
        for queue in state.queues.values():
            queue.append(99)
        state.queues["more"] = [1]
        state.boxes["a"] = 99
        state.boxes["more"] = 1
        state.drawn = 50
        state.sent = 60

    def check_answer(self, answer):
        self.assertEqual((told(answer[0]),) + answer[1:], self.answer())

    def test_the_state_stays_behind_each_fault(self):
        full = {"q": [1] * 28, "r": [5, 6]}
        for kind, last, draws, time in (
                (Nought, ("put", "a", NOUGHT), (5,), 40), (Great, ("push", "r", GREAT), (5,), 40),
                (Full, ("push", "q", number(1)), (5,), 40), (Nought, ("draw", "a", number(0)), (5,), 40),
                (Span, send(0), (5,), 40), (Late, send(9), (5,), LAST - 3)):
            deeds = self.deeds[:-1] + [("push", "q", number(3)), last]
            state = state_of(queues=copy.deepcopy(full), drawn=2, sent=3)
            self.check_fault(kind, deeds, state=state, draws=draws, time=time)
            self.assertEqual(told(state), told(state_of(queues=copy.deepcopy(full), drawn=2, sent=3)))
        self.check_fault(Dry, [put("a", 1), ("push", "q", number(2)), send(), ("draw", "a", number(1))], draws=())

    def test_done_anew_behind_a_fault(self):
        model = model_of([
            put("a", 1), ("push", "q", number(1)), ("draw", "b", ("got", 0)), send(), ("put", "a", NOUGHT)])
        state = self.state()
        for time in range(3):
            with self.assertRaises(Nought):
                done(model, state, happening_at())
        self.assertEqual(told(state), told(self.state()))

    def test_the_same_happening_told_twice(self):
        model = model_of(self.deeds)
        state = self.state()
        self.check_answer(done(model, state, happening_at()))
        self.check_answer(done(model, state, happening_at()))

    def test_changing_the_told_state(self):
        model = model_of(self.deeds)
        state = self.state()
        answer = done(model, state, happening_at())
        self.spoil(answer[0])
        self.assertEqual(answer[1:], self.answer()[1:])
        self.assertEqual(told(state), told(self.state()))
        self.assertEqual(model.machines, model_of(self.deeds).machines)
        self.check_answer(done(model, state, happening_at()))

    def test_changing_the_told_record(self):
        model = model_of(self.deeds)
        state = self.state()
        answer = done(model, state, happening_at())
        for write in answer[1][5]:
            if isinstance(write[1], list):
                write[1].append(99)
        answer[1][5].clear()
        answer[1][6].clear()
        self.assertEqual(told(answer[0]), self.answer()[0])
        self.assertEqual(told(state), told(self.state()))
        self.assertEqual(model.machines, model_of(self.deeds).machines)
        self.check_answer(done(model, state, happening_at()))

    def test_changing_the_state_that_was_handed_in(self):
        model = model_of(self.deeds)
        state = self.state()
        answer = done(model, state, happening_at())
        self.spoil(state)
        self.check_answer(answer)

    def test_a_state_that_nothing_was_done_to_is_a_copy_too(self):
        state = self.state()
        answer = done(model_of([]), state, happening_at(sign="deaf"))
        self.spoil(answer[0])
        self.assertEqual(told(state), told(self.state()))

    def test_lists_of_nothing_are_not_shared(self):
        model = model_of([])
        first = done(model, self.state(), happening_at(sign="deaf"))
        first[1][5].append(("a", 1))
        first[1][6].append("more")
        self.assertEqual(done(model, self.state(), happening_at(sign="deaf"))[1][5:], ([], []))


if __name__ == "__main__":
    unittest.main()
