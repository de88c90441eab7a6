"""Models and states: told as they were handed in, and shared with nobody."""

import copy
import unittest

from momentloom.model import Model, State, first_state

GREATEST = 10 ** 15


def deep_deeds(depth):
    """Deeds that lie so deep within others, by turns in a pull and on both sides of an if."""
    deeds = [("put", "a", ("plus", ("box", "a"), ("number", 1))), ("end",)]
    for level in range(1, depth):
        if level % 2:
            deeds = [("pull", "q", "a", deeds)]
        else:
            deeds = [("if", ("long", "q"), deeds, [("draw", "a", ("number", 6))])]
    return deeds


def some_machines():
    return [
        ("clerk", [("a", 3), ("b", -4)], ["q", "r"], [5, 0, GREATEST], [
            ("go", deep_deeds(5)),
            ("stop", [("send", 1, "come", ("number", 1), 9, ("got", 0), ("now",)), ("push", "q", ("got", 1))]),
            ("idle", [])]),
        ("porter", [], [], [], []),
    ]


def lists_in(thing):
    """All lists in a thing, itself among them."""
    found = []
    if isinstance(thing, (list, tuple)):
        if isinstance(thing, list):
            found.append(thing)
        for part in thing:
            found.extend(lists_in(part))
    return found


def told(state):
    return (state.boxes, state.queues, state.drawn, state.sent)


class Handed(unittest.TestCase):
    def test_machines_are_told_as_handed_in(self):
        self.assertEqual(Model(some_machines()).machines, some_machines())

    def test_lists_are_lists_and_tuples_are_tuples(self):
        self.assertEqual(repr(Model(some_machines()).machines), repr(some_machines()))

    def test_what_is_handed_in_is_not_changed(self):
        machines = some_machines()
        first_state(Model(machines), 0)
        self.assertEqual(machines, some_machines())

    def test_no_list_is_shared(self):
        machines = some_machines()
        handed = [id(found) for found in lists_in(machines)]
        for found in lists_in(Model(machines).machines):
            self.assertNotIn(id(found), handed)

    def test_changing_any_list_behind_the_call_changes_nothing(self):
        for place in range(len(lists_in(some_machines()))):
            for change in (list.clear, lambda found: found.append("more")):
                machines = some_machines()
                model = Model(machines)
                change(lists_in(machines)[place])
                self.assertEqual(model.machines, some_machines())
                self.assertEqual(told(first_state(model, 0)), ({"a": 3, "b": -4}, {"q": [], "r": []}, 0, 0))

    def test_changing_a_list_of_machines_that_was_one_for_two_models(self):
        machines = some_machines()
        model = Model(machines)
        other = Model(machines)
        model.machines.clear()
        self.assertEqual(other.machines, some_machines())
        self.assertEqual(machines, some_machines())


class Sizes(unittest.TestCase):
    def check_kept(self, machines):
        before = copy.deepcopy(machines)
        model = Model(machines)
        self.assertEqual(model.machines, before)
        for at, machine in enumerate(before):
            self.assertEqual(
                told(first_state(model, at)),
                (dict(machine[1]), {name: [] for name in machine[2]}, 0, 0))

    def test_none_to_six_boxes_and_somewhat_more(self):
        for count in range(8):
            self.check_kept([("m", [("abcdefgh"[k], k) for k in range(count)], ["q"], [1], [])])

    def test_none_to_three_queues_and_somewhat_more(self):
        for count in range(5):
            self.check_kept([("m", [("x", 0)], ["abcde"[k] for k in range(count)], [1], [])])

    def test_none_to_twenty_draws_and_somewhat_more(self):
        for count in range(23):
            self.check_kept([("m", [], [], [k * 7 for k in range(count)], [])])

    def test_none_to_four_signs_and_somewhat_more(self):
        for count in range(6):
            self.check_kept([("m", [("a", 1)], ["q"], [], [("abcdef"[k], deep_deeds(k + 1)) for k in range(count)])])

    def test_one_to_six_machines_and_somewhat_more(self):
        for count in range(1, 8):
            self.check_kept([("abcdefg"[k], [("x", k)], ["q"], [k], []) for k in range(count)])

    def test_bounds_of_worths_draws_and_names(self):
        self.check_kept([("abcxyz", [("z", GREATEST), ("aaaaaa", -GREATEST)], ["zzzzzz"], [0, GREATEST], [])])

    def test_deeds_may_name_what_is_not_there(self):
        self.check_kept([("m", [], [], [], [("s", [("put", "x", ("box", "y")), ("pull", "q", "x", [])])])])


class FirstState(unittest.TestCase):
    def test_of_each_machine(self):
        model = Model([
            ("one", [("x", 5), ("y", -6)], ["q"], [1, 2], []),
            ("two", [("x", 7)], ["r", "s", "t"], [], []),
            ("three", [], [], [3], [])])
        self.assertEqual(told(first_state(model, 0)), ({"x": 5, "y": -6}, {"q": []}, 0, 0))
        self.assertEqual(told(first_state(model, 1)), ({"x": 7}, {"r": [], "s": [], "t": []}, 0, 0))
        self.assertEqual(told(first_state(model, 2)), ({}, {}, 0, 0))

    def test_kinds(self):
        state = first_state(Model(some_machines()), 0)
        self.assertIs(type(state), State)
        self.assertEqual([type(field) for field in told(state)], [dict, dict, int, int])
        self.assertEqual([type(queue) for queue in state.queues.values()], [list, list])

    def test_queues_of_one_state_are_not_one_list(self):
        state = first_state(Model(some_machines()), 0)
        state.queues["q"].append(1)
        self.assertEqual(state.queues["r"], [])

    def test_told_anew_each_time(self):
        model = Model(some_machines())
        state = first_state(model, 0)
        state.boxes["a"] = 99
        state.boxes["new"] = 1
        state.queues["q"].append(1)
        state.queues["new"] = [2]
        state.drawn = 3
        state.sent = 4
        self.assertEqual(told(first_state(model, 0)), ({"a": 3, "b": -4}, {"q": [], "r": []}, 0, 0))
        self.assertEqual(model.machines, some_machines())


class StateCopy(unittest.TestCase):
    def state(self):
        return State({"x": 1, "y": -2}, {"q": [3, 4], "r": []}, 5, 6)

    def change(self, state):
        state.boxes["x"] = 10
        state.boxes["z"] = 11
        state.queues["q"].append(12)
        state.queues["r"].append(13)
        state.queues["s"] = []
        state.drawn = 14
        state.sent = 15

    def test_fields_are_what_it_is_made_of(self):
        self.assertEqual(told(self.state()), ({"x": 1, "y": -2}, {"q": [3, 4], "r": []}, 5, 6))

    def test_copy_holds_the_same(self):
        copied = self.state().copy()
        self.assertIs(type(copied), State)
        self.assertEqual(told(copied), told(self.state()))
        self.assertEqual([type(field) for field in told(copied)], [dict, dict, int, int])
        self.assertEqual([type(queue) for queue in copied.queues.values()], [list, list])

    def test_copy_of_an_empty_state(self):
        self.assertEqual(told(State({}, {}, 0, 0).copy()), ({}, {}, 0, 0))

    def test_changing_the_copy_changes_not_the_state(self):
        state = self.state()
        self.change(state.copy())
        self.assertEqual(told(state), told(self.state()))

    def test_changing_the_state_changes_not_the_copy(self):
        state = self.state()
        copied = state.copy()
        self.change(state)
        self.assertEqual(told(copied), told(self.state()))

    def test_copy_of_a_copy(self):
        state = self.state()
        first = state.copy()
        second = first.copy()
        self.change(first)
        self.assertEqual(told(second), told(self.state()))


if __name__ == "__main__":
    unittest.main()
