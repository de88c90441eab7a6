"""Steps of a hall: doing, hearing signs and backs, taking back, and the bound of going ahead."""

import unittest

from momentloom.hall import Hall
from momentloom.model import Model
from momentloom.plain import plain

from samples import GO, NOUGHT, number, parts_of, send, told

ONE_MORE = ("put", "n", ("plus", ("box", "n"), number(1)))


def outside(time, place, rank=0):
    return (time, rank, -1, place)


def machine(name, hears, draws=()):
    return (name, [("n", 0), ("d", 0)], ["q"], list(draws), hears)


class Steps(unittest.TestCase):
    def act(self, hall, *actions):
        """Does these very actions, wherever they stand among the possible ones."""
        for action in actions:
            self.assertIn(action, hall.actions())
            self.assertEqual(hall.step(hall.actions().index(action)), action)

    def check_finish(self, hall, model, signs):
        self.assertEqual(parts_of(hall.finish(100)), parts_of(plain(model, signs, 100)))


class InOrder(Steps):
    def hall(self):
        model = Model([
            machine("a", [("go", [send(1, "hit", 5), send(2, "hit", 4)])]), machine("b", []),
            machine("c", [("go", [send(0, "hit", 1), send(1, "hit", 2)])])])
        signs = [(0, 0, 0, "go", 0, 0), (1, 0, 2, "go", 0, 0), (9, 0, 1, "tick", 0, 0)]
        return Hall(model, signs, [0, 1, 2], None)

    def test_doing_by_parts_then_hearing_by_the_hearer_then_by_the_sender(self):
        hall = self.hall()
        self.act(hall, ("do", 2, outside(1, 1)), ("do", 0, outside(0, 0)))
        self.assertEqual(hall.actions(), [
            ("do", 1, outside(9, 2)),
            ("hear", 0, 2, (2, 0, 2, 0), "sign"), ("hear", 1, 0, (5, 0, 0, 0), "sign"),
            ("hear", 1, 2, (3, 0, 2, 1), "sign"), ("hear", 2, 0, (4, 0, 0, 1), "sign")])

    def test_each_is_done_and_told(self):
        for place, left in (
                (0, [("hear", 0, 2), ("hear", 1, 0), ("hear", 1, 2), ("hear", 2, 0)]),
                (1, [("do", 0), ("do", 1), ("hear", 1, 0), ("hear", 1, 2), ("hear", 2, 0)]),
                (2, [("do", 1), ("hear", 0, 2), ("hear", 1, 2), ("hear", 2, 0)]),
                (3, [("do", 1), ("hear", 0, 2), ("hear", 1, 0), ("hear", 2, 0)]),
                (4, [("do", 1), ("do", 2), ("hear", 0, 2), ("hear", 1, 0), ("hear", 1, 2)])):
            hall = self.hall()
            self.act(hall, ("do", 2, outside(1, 1)), ("do", 0, outside(0, 0)))
            possible = hall.actions()
            self.assertEqual(hall.step(place), possible[place])
            found = [action[:2] if action[0] == "do" else action[:3] for action in hall.actions()]
            self.assertEqual(found, left)

    def test_a_number_is_counted_round_and_round(self):
        for more in (0, 5, 500, 5 * 10 ** 20):
            for place in range(5):
                hall = self.hall()
                self.act(hall, ("do", 2, outside(1, 1)), ("do", 0, outside(0, 0)))
                possible = hall.actions()
                self.assertEqual(hall.step(place + more), possible[place])

    def test_none_where_there_is_none(self):
        hall = self.hall()
        for number_told in range(40):
            if hall.actions():
                self.assertIsNotNone(hall.step(number_told))
        self.assertTrue(hall.over())
        self.assertIsNone(hall.step(0))
        self.assertIsNone(hall.step(7))

    def test_logs_and_the_floor(self):
        hall = self.hall()
        self.act(hall, ("do", 2, outside(1, 1)))
        self.assertEqual((hall.floor(), hall.log(2), hall.settled()), (outside(0, 0), [outside(1, 1)], []))
        self.act(hall, ("do", 0, outside(0, 0)))
        self.assertEqual((hall.floor(), hall.log(0)), ((2, 0, 2, 0), [outside(0, 0)]))
        self.assertEqual([record[0] for record in hall.settled()], [outside(0, 0), outside(1, 1)])
        self.act(hall, ("hear", 0, 2, (2, 0, 2, 0), "sign"))
        self.assertEqual(hall.floor(), (2, 0, 2, 0))
        self.act(hall, ("do", 0, (2, 0, 2, 0)))
        self.assertEqual((hall.floor(), hall.log(0)), ((3, 0, 2, 1), [outside(0, 0), (2, 0, 2, 0)]))

    def test_letters_of_one_road_as_they_were_sent(self):
        model = Model([machine("a", [("go", [send(1, "hit", 9), send(1, "hit", 2, 5), send(1, "hit", 2, 1)])]),
                       machine("b", [])])
        hall = Hall(model, [(0, 0, 0, "go", 0, 0), (1, 0, 0, "go", 0, 0)], [3, 2], None)
        self.act(hall, ("do", 3, outside(0, 0)), ("do", 3, outside(1, 1)))
        keys = [(9, 0, 0, 0), (2, 5, 0, 1), (2, 1, 0, 2), (10, 0, 0, 3), (3, 5, 0, 4), (3, 1, 0, 5)]
        for place, key in enumerate(keys):
            self.assertEqual(hall.actions()[-1], ("hear", 2, 3, key, "sign"))
            self.assertEqual(hall.floor(), min(keys))
            hall.step(len(hall.actions()) - 1)
        for key in sorted(keys):
            self.assertEqual(hall.actions(), [("do", 2, key)])
            hall.step(0)
        self.assertEqual(hall.taken_back(), 0)

    def test_letters_of_unlike_roads_in_any_order(self):
        for first in (("hear", 1, 0, (5, 0, 0, 0), "sign"), ("hear", 1, 2, (3, 0, 2, 1), "sign")):
            hall = self.hall()
            self.act(hall, ("do", 0, outside(0, 0)), ("do", 2, outside(1, 1)), first)
            self.assertIn(("do", 1, first[3]), hall.actions())

    def test_two_machines_of_one_part_have_one_road(self):
        model = Model([
            machine("a", [("go", [send(2, "hit", 5)])]), machine("b", [("go", [send(3, "hit", 2)])]),
            machine("c", []), machine("d", [])])
        hall = Hall(model, [(0, 0, 0, "go", 0, 0), (1, 0, 1, "go", 0, 0)], [1, 1, 4, 4], None)
        hall.step(0)
        hall.step(0)
        self.assertEqual(hall.actions(), [("hear", 4, 1, (5, 0, 0, 0), "sign")])
        hall.step(0)
        self.assertEqual(hall.actions(), [("do", 4, (5, 0, 0, 0)), ("hear", 4, 1, (3, 0, 1, 0), "sign")])


def clock():
    """Part 0 sends hits to part 1, whose ticks count, push, draw and tell part 2 of it."""
    return Model([
        machine("a", [("go", [send(1, "hit", 3, 0, ("got", 0))])]),
        machine("b", [
            ("tick", [ONE_MORE, ("push", "q", ("box", "n")), ("draw", "d", number(100)),
                      send(2, "say", 10, 0, ("box", "n"), ("box", "d"))]),
            ("hit", [("put", "n", ("plus", ("times", ("box", "n"), number(10)), ("got", 0)))])], [31, 41, 59, 26]),
        machine("c", [("say", [("push", "q", ("got", 0))])])])


class Signs(Steps):
    """Part 1 goes ahead with ticks, and then hears a hit."""

    signs = [(0, 0, 0, "go", 7, 0)] + [(time, 0, 1, "tick", 0, 0) for time in (1, 2, 4, 5, 6)]
    ticks = [outside(1, 1), outside(2, 2), outside(4, 3), outside(5, 4), outside(6, 5)]
    hit = (3, 0, 0, 0)

    def hall(self, count):
        """The go was done, and so many ticks."""
        hall = Hall(clock(), self.signs, [0, 1, 2], None)
        self.act(hall, ("do", 0, outside(0, 0)))
        for key in self.ticks[:count]:
            self.act(hall, ("do", 1, key))
        return hall

    def check(self, count, back):
        """Behind so many ticks the hit takes back so many of them."""
        hall = self.hall(count)
        self.assertEqual(hall.log(1), self.ticks[:count])
        self.act(hall, ("hear", 1, 0, self.hit, "sign"))
        self.assertEqual(hall.taken_back(), back)
        self.assertEqual(hall.log(1), self.ticks[:count - back])
        self.assertEqual(hall.log(0), [outside(0, 0)])
        # From the least on, what was taken back is pending among the others, and nothing is lost.
        rest = sorted([self.hit] + self.ticks[count - back:])
        for key in rest:
            self.act(hall, ("do", 1, key))
        self.assertEqual(hall.log(1), self.ticks[:2] + [self.hit] + self.ticks[2:])
        self.check_finish(hall, clock(), self.signs)
        self.assertEqual(hall.taken_back(), back)
        return hall

    def test_one_that_takes_nothing_back(self):
        for count in (0, 1, 2):
            self.check(count, 0)

    def test_one_that_takes_one_back(self):
        self.check(3, 1)

    def test_one_that_takes_several_back(self):
        self.check(4, 2)
        self.check(5, 3)

    def test_one_that_takes_all_back(self):
        signs = [(0, 0, 0, "go", 7, 0), (4, 0, 1, "tick", 0, 0), (5, 0, 1, "tick", 0, 0)]
        hall = Hall(clock(), signs, [0, 1, 2], None)
        self.act(hall, ("do", 1, outside(4, 1)), ("do", 1, outside(5, 2)), ("do", 0, outside(0, 0)))
        self.act(hall, ("hear", 1, 0, self.hit, "sign"))
        self.assertEqual((hall.log(1), hall.taken_back()), ([], 2))
        self.check_finish(hall, clock(), signs)

    def test_keys_of_like_times_are_told_apart(self):
        # An outside sign of the hit's time and rank goes ahead of it, one of a greater rank behind it.
        for rank, back in ((0, 0), (9, 1)):
            signs = [(0, 0, 0, "go", 7, 0), (3, rank, 1, "tick", 0, 0)]
            hall = Hall(clock(), signs, [0, 1, 2], None)
            self.act(hall, ("do", 0, outside(0, 0)), ("do", 1, outside(3, 1, rank)))
            self.act(hall, ("hear", 1, 0, self.hit, "sign"))
            self.assertEqual(hall.taken_back(), back)
            self.check_finish(hall, clock(), signs)

    def test_the_greatest_key_first(self):
        hall = self.hall(5)
        says = [(key[0] + 10, 0, 1, place) for place, key in enumerate(self.ticks)]
        for key in says:
            self.act(hall, ("hear", 2, 1, key, "sign"))
        self.assertEqual(hall.actions()[-1], ("hear", 1, 0, self.hit, "sign"))
        hall.step(len(hall.actions()) - 1)
        for key in (says[4], says[3], says[2]):
            self.assertEqual(hall.actions()[-1], ("hear", 2, 1, key, "back"))
            hall.step(len(hall.actions()) - 1)
        self.assertEqual([action[0] for action in hall.actions()], ["do", "do"])
        self.check_finish(hall, clock(), self.signs)

    def test_states_are_as_they_were(self):
        hall = self.hall(5)
        self.act(hall, ("hear", 1, 0, self.hit, "sign"), ("do", 1, self.hit), ("do", 1, self.ticks[2]))
        record = hall.settled()[-1]
        self.assertEqual(record[:3], (self.ticks[2], 1, "tick"))
        self.assertEqual(record[5], [("n", 28), ("d", 59), ("q", [1, 2, 28])])
        self.assertEqual(record[6], [((14, 0, 1, 2), 2, "say", 28, 59)])

    def test_states_of_other_machines_of_the_part_too(self):
        model = Model(clock().machines + [machine("e", [("tick", [ONE_MORE, ("push", "q", ("box", "n"))])])])
        signs = self.signs + [(time, 1, 3, "tick", 0, 0) for time in (1, 2, 3, 4, 5)]
        hall = Hall(model, signs, [0, 1, 2, 1], None)
        for turn in range(11):
            hall.step(1 if turn == 0 else 0)
        self.act(hall, ("hear", 1, 0, self.hit, "sign"))
        self.assertEqual(hall.taken_back(), 6)
        self.assertEqual(hall.log(1), [outside(1, 1), outside(1, 6, 1), outside(2, 2), outside(2, 7, 1)])
        self.act(hall, ("do", 1, self.hit), ("do", 1, outside(3, 8, 1)))
        self.assertEqual(hall.settled()[-1][5], [("n", 3), ("q", [1, 2, 3])])
        self.check_finish(hall, model, signs)

    def test_taken_back_again_and_again(self):
        signs = [(time, 0, 0, "go", time, 0) for time in (2, 1, 0)] + [(9, 0, 1, "tick", 0, 0)]
        hall = Hall(clock(), signs, [0, 1, 2], None)
        self.act(hall, ("do", 1, outside(9, 3)))
        for count, place in enumerate((2, 1, 0)):
            hit = (5 - place, 0, 0, count)
            self.act(hall, ("do", 0, outside(2 - place, place)), ("hear", 1, 0, hit, "sign"))
            self.assertEqual(hall.taken_back(), count + 1)
            self.act(hall, ("do", 1, hit), ("do", 1, outside(9, 3)))
        self.assertEqual(hall.taken_back(), 3)
        self.check_finish(hall, clock(), signs)


def echo():
    """Part 1's ticks send an echo within the part as long as no hit came, and else a word to part 2."""
    return Model([
        machine("a", [("go", [send(1, "hit", 3)])]),
        machine("b", [
            ("tick", [("if", ("box", "n"), [send(2, "word", 1)], [send(1, "echo", 1), send(3, "echo", 2)])]),
            ("hit", [ONE_MORE]), ("echo", [("push", "q", ("now",)), send(2, "far", 5)])]),
        machine("c", []), machine("d", [("echo", [("push", "q", ("now",)), send(1, "heard", 1)])])])


class SentWithin(Steps):
    """What a taken back happening had sent within its part is pending no more."""

    signs = [(0, 0, 0, "go", 0, 0), (5, 0, 1, "tick", 0, 0)]
    hit = (3, 0, 0, 0)
    done = [outside(5, 1), (6, 0, 1, 0), (7, 0, 1, 1), (8, 0, 3, 0)]

    def check(self, count):
        """Of the tick and what comes of it within the part, so many were done ahead of the hit."""
        hall = Hall(echo(), self.signs, [0, 1, 2, 1], None)
        self.act(hall, ("do", 0, outside(0, 0)))
        for key in self.done[:count]:
            self.act(hall, ("do", 1, key))
        self.act(hall, ("hear", 1, 0, self.hit, "sign"))
        self.assertEqual((hall.taken_back(), hall.log(1)), (count, []))
        self.act(hall, ("do", 1, self.hit), ("do", 1, outside(5, 1)))
        # The tick now tells part 2 of it, with the count of the echo that was never sent.
        self.assertEqual([action for action in hall.actions() if action[0] == "do"], [])
        self.assertEqual(hall.log(1), [self.hit, outside(5, 1)])
        self.check_finish(hall, echo(), self.signs)
        return hall

    def test_pending_ones(self):
        self.check(1)

    def test_those_in_the_log(self):
        for count in (2, 3, 4):
            self.check(count)

    def test_what_is_done_anew_is_sent_anew(self):
        model = echo()
        signs = [(0, 0, 0, "deaf", 0, 0), (5, 0, 1, "tick", 0, 0), (4, 0, 0, "go", 0, 0)]
        hall = Hall(model, signs, [0, 1, 2, 1], None)
        for key in self.done:
            self.act(hall, ("do", 1, key))
        self.act(hall, ("do", 0, outside(0, 0)), ("do", 0, outside(4, 2)))
        self.act(hall, ("hear", 1, 0, (7, 0, 0, 0), "sign"))
        self.assertEqual(hall.log(1), self.done[:2])
        self.assertEqual(hall.taken_back(), 2)
        self.act(hall, ("do", 1, (7, 0, 0, 0)), ("do", 1, (7, 0, 1, 1)), ("do", 1, (8, 0, 3, 0)))
        self.check_finish(hall, model, signs)


class Backs(Steps):
    """What a taken back happening had sent to other parts is called back by letters."""

    def model(self):
        return Model([
            machine("a", [("go", [send(1, "hit", 3)])]),
            machine("b", [
                ("tick", [("if", ("box", "n"), [send(2, "say", 9, 1)], [
                    send(2, "say", 4, 2), send(3, "say", 4, 1), send(2, "say", 2, 3)])]),
                ("hit", [ONE_MORE])]),
            machine("c", [("say", [ONE_MORE]), ("own", [ONE_MORE, send(3, "say", 1)])]),
            machine("d", [("say", [ONE_MORE])])])

    signs = [
        (0, 0, 0, "go", 0, 0), (5, 0, 1, "tick", 0, 0), (6, 0, 2, "own", 0, 0), (8, 0, 2, "own", 0, 0),
        (10, 0, 2, "own", 0, 0)]
    hit = (3, 0, 0, 0)
    says = [(9, 2, 1, 0), (9, 1, 1, 1), (7, 3, 1, 2)]

    def hall(self, heard):
        """The tick was done, and part 2 heard so many of the two letters from it; then the hit comes."""
        hall = Hall(self.model(), self.signs, [0, 1, 2, 3], None)
        self.act(hall, ("do", 0, outside(0, 0)), ("do", 1, outside(5, 1)))
        for key in (self.says[0], self.says[2])[:heard]:
            self.act(hall, ("hear", 2, 1, key, "sign"))
        return hall

    def hit_it(self, hall):
        self.act(hall, ("hear", 1, 0, self.hit, "sign"))
        self.assertEqual(hall.taken_back(), 1)

    def test_a_letter_for_each_in_the_order_of_sending(self):
        hall = self.hall(2)
        self.hit_it(hall)
        self.act(hall, ("hear", 3, 1, self.says[1], "sign"))
        self.assertEqual(hall.actions()[-2:], [
            ("hear", 2, 1, self.says[0], "back"), ("hear", 3, 1, self.says[1], "back")])
        self.act(hall, ("hear", 2, 1, self.says[0], "back"))
        self.assertEqual(hall.actions()[-2:], [
            ("hear", 2, 1, self.says[2], "back"), ("hear", 3, 1, self.says[1], "back")])

    def test_a_back_comes_behind_its_sign(self):
        hall = self.hall(0)
        self.hit_it(hall)
        for key, what in (
                (self.says[0], "sign"), (self.says[2], "sign"), (self.says[0], "back"), (self.says[2], "back")):
            self.act(hall, ("hear", 2, 1, key, what))
        self.assertNotIn(("hear", 2, 1), [action[:3] for action in hall.actions()])
        self.check_finish(hall, self.model(), self.signs)

    def test_a_back_has_its_signs_key_for_the_floor(self):
        hall = self.hall(2)
        self.hit_it(hall)
        self.act(hall, ("do", 1, self.hit), ("do", 1, outside(5, 1)), ("do", 2, outside(6, 2)))
        self.assertEqual(hall.floor(), (7, 0, 2, 0))
        self.act(hall, ("hear", 3, 1, self.says[1], "sign"))
        self.act(hall, ("hear", 3, 1, self.says[1], "back"), ("hear", 3, 2, (7, 0, 2, 0), "sign"))
        self.act(hall, ("do", 3, (7, 0, 2, 0)))
        self.assertEqual(hall.floor(), self.says[2])
        self.act(hall, ("do", 2, self.says[2]), ("do", 2, outside(8, 3)), ("hear", 3, 2, (9, 0, 2, 1), "sign"))
        self.assertEqual(hall.floor(), self.says[2])
        self.act(hall, ("hear", 2, 1, self.says[0], "back"))
        self.assertEqual(hall.floor(), self.says[2])
        self.act(hall, ("hear", 2, 1, self.says[2], "back"))
        self.assertEqual(hall.floor(), outside(8, 3))
        self.check_finish(hall, self.model(), self.signs)

    def test_for_what_is_pending(self):
        hall = self.hall(2)
        self.hit_it(hall)
        self.act(hall, ("do", 2, outside(6, 2)))
        self.act(hall, ("hear", 2, 1, self.says[0], "back"))
        self.assertEqual((hall.taken_back(), hall.log(2)), (1, [outside(6, 2)]))
        self.assertIn(("do", 2, self.says[2]), hall.actions())
        self.act(hall, ("hear", 2, 1, self.says[2], "back"))
        self.assertEqual((hall.taken_back(), hall.log(2)), (1, [outside(6, 2)]))
        self.assertIn(("do", 2, outside(8, 3)), hall.actions())
        self.check_finish(hall, self.model(), self.signs)

    def test_for_the_last_of_the_log(self):
        hall = self.hall(2)
        for key in (outside(6, 2), self.says[2], outside(8, 3), self.says[0]):
            self.act(hall, ("do", 2, key))
        self.hit_it(hall)
        self.act(hall, ("hear", 2, 1, self.says[0], "back"))
        self.assertEqual((hall.taken_back(), hall.log(2)), (2, [outside(6, 2), self.says[2], outside(8, 3)]))
        self.assertIn(("do", 2, outside(10, 4)), hall.actions())
        self.check_finish(hall, self.model(), self.signs)

    def test_for_one_in_the_log_with_others_behind_it(self):
        hall = self.hall(2)
        for key in (outside(6, 2), self.says[2], outside(8, 3), self.says[0], outside(10, 4)):
            self.act(hall, ("do", 2, key))
        self.hit_it(hall)
        self.act(hall, ("hear", 2, 1, self.says[0], "back"))
        self.assertEqual((hall.taken_back(), hall.log(2)), (3, [outside(6, 2), self.says[2], outside(8, 3)]))
        self.act(hall, ("do", 2, outside(10, 4)))
        self.act(hall, ("hear", 2, 1, self.says[2], "back"))
        self.assertEqual((hall.taken_back(), hall.log(2)), (6, [outside(6, 2)]))
        for key in (outside(8, 3), outside(10, 4)):
            self.act(hall, ("do", 2, key))
        self.check_finish(hall, self.model(), self.signs)

    def test_the_greatest_first(self):
        hall = self.hall(2)
        for key in (outside(6, 2), self.says[2], outside(8, 3), self.says[0], outside(10, 4)):
            self.act(hall, ("do", 2, key))
        self.hit_it(hall)
        for key in ((7, 0, 2, 0), (9, 0, 2, 1), (11, 0, 2, 2)):
            self.act(hall, ("hear", 3, 2, key, "sign"))
        self.act(hall, ("hear", 2, 1, self.says[0], "back"), ("hear", 2, 1, self.says[2], "back"))
        self.assertEqual(hall.taken_back(), 5)
        for key in ((11, 0, 2, 2), (9, 0, 2, 1)):
            self.act(hall, ("hear", 3, 2, key, "back"))
        self.assertNotIn(("hear", 3, 2), [action[:3] for action in hall.actions()])
        self.check_finish(hall, self.model(), self.signs)

    def test_the_same_key_is_sent_anew_behind_its_back(self):
        # The tick that comes behind a hit sends a say with the count of the one that was called back.
        model = Model([
            machine("a", [("go", [send(1, "hit", 3)])]),
            machine("b", [("tick", [send(2, "say", 4, 2, ("box", "n"))]), ("hit", [ONE_MORE])]),
            machine("c", [("say", [("push", "q", ("got", 0))])])])
        hall = Hall(model, self.signs[:2], [0, 1, 2], None)
        say = (9, 2, 1, 0)
        self.act(hall, ("do", 0, outside(0, 0)), ("do", 1, outside(5, 1)), ("hear", 1, 0, self.hit, "sign"))
        self.act(hall, ("do", 1, self.hit), ("do", 1, outside(5, 1)))
        for what in ("sign", "back", "sign"):
            self.assertEqual(hall.actions()[-1], ("hear", 2, 1, say, what))
            self.assertEqual(hall.floor(), say)
            hall.step(len(hall.actions()) - 1)
        self.assertEqual(hall.actions(), [("do", 2, say)])
        hall.step(0)
        self.assertEqual(hall.settled()[-1][5], [("q", [1])])
        self.assertEqual(hall.taken_back(), 1)

    def test_the_same_key_is_sent_anew_to_another_part(self):
        hall = elsewhere(self)
        key = (9, 2, 1, 0)
        self.assertEqual(hall.actions(), [("hear", 2, 1, key, "sign"), ("hear", 3, 1, key, "sign")])
        self.act(hall, ("hear", 3, 1, key, "sign"), ("hear", 2, 1, key, "sign"))
        # What is called back may be done all the same, as long as the letter is on its way.
        self.assertEqual(hall.actions(), [("do", 2, key), ("do", 3, key), ("hear", 2, 1, key, "back")])
        self.act(hall, ("do", 3, key), ("do", 2, key))
        self.assertEqual((hall.floor(), hall.log(2), hall.log(3)), (key, [key], [key]))
        self.assertNotIn(key, [record[0] for record in hall.settled()])
        self.act(hall, ("hear", 2, 1, key, "back"))
        self.assertEqual((hall.log(2), hall.log(3), hall.taken_back()), ([], [key], 2))
        self.assertEqual((hall.settled()[-1][:2], hall.outcome()), ((key, 3), ("empty",)))

    def test_the_floor_is_served_by_the_first_road(self):
        hall = elsewhere(self)
        key = (9, 2, 1, 0)
        for left in (
                [("do", 2, key), ("hear", 2, 1, key, "back"), ("hear", 3, 1, key, "sign")],
                [("hear", 3, 1, key, "sign")], [("do", 3, key)], []):
            hall.serve_floor()
            self.assertEqual(hall.actions(), left)


def elsewhere(case):
    """A say to part 2 was called back and sent with the same key to part 3; no letter of it was heard."""
    model = Model([
        machine("a", [("go", [send(1, "hit", 3)])]),
        machine("b", [
            ("tick", [("if", ("box", "n"), [send(3, "say", 4, 2)], [send(2, "say", 4, 2)])]), ("hit", [ONE_MORE])]),
        machine("c", []), machine("d", [])])
    hall = Hall(model, [(0, 0, 0, "go", 0, 0), (5, 0, 1, "tick", 0, 0)], [0, 1, 2, 3], None)
    hit = (3, 0, 0, 0)
    case.act(hall, ("do", 0, outside(0, 0)), ("do", 1, outside(5, 1)), ("hear", 1, 0, hit, "sign"))
    case.act(hall, ("do", 1, hit), ("do", 1, outside(5, 1)))
    return hall


class Stopped(Steps):
    """A log with an end or a fault keeps the part from doing, and not from hearing."""

    def model(self, behind):
        return Model([
            machine("a", [("go", [send(1, "hit", 3)]), ("far", [send(1, "hit", 30)])]),
            machine("b", [("tick", [ONE_MORE, ("if", ("below", ("box", "n"), number(10)), behind, [])]),
                          ("hit", [("put", "n", number(20))])]),
            machine("c", [])])

    signs = [(0, 0, 0, "go", 0, 0), (1, 0, 0, "far", 0, 0), (5, 0, 1, "tick", 0, 0), (6, 0, 1, "tick", 0, 0)]
    stops = ([("end",), send(2, "say", 1), send(1, "tick", 9)], [send(2, "say", 1), ("put", "n", NOUGHT)])

    def halls(self):
        """Halls with a tick in the log that ends, or is a fault, and that the hit takes back."""
        for behind in self.stops:
            hall = Hall(self.model(behind), self.signs, [0, 1, 2], None)
            self.act(hall, ("do", 1, outside(5, 2)))
            yield hall, behind

    def test_it_goes_to_the_log(self):
        for hall, behind in self.halls():
            self.assertEqual(hall.log(1), [outside(5, 2)])
            self.assertEqual((hall.over(), hall.outcome(), hall.settled()), (False, None, []))

    def test_nothing_more_is_done(self):
        for hall, behind in self.halls():
            self.assertEqual([action[:2] for action in hall.actions() if action[0] == "do"], [("do", 0)])

    def test_a_fault_changes_and_sends_nothing_and_an_end_does(self):
        found = [hall.actions()[1:] for hall, behind in self.halls()]
        self.assertEqual(found, [[("hear", 2, 1, (6, 0, 1, 0), "sign")], []])

    def test_a_sign_with_a_greater_key_is_heard_and_not_done(self):
        for behind in self.stops:
            # The deaf sign holds the floor below the tick, or the hall would be over.
            signs = self.signs[1:] + [(2, 0, 0, "deaf", 0, 0)]
            hall = Hall(self.model(behind), signs, [0, 1, 2], None)
            self.act(hall, ("do", 1, outside(5, 1)), ("do", 0, outside(1, 0)))
            self.act(hall, ("hear", 1, 0, (31, 0, 0, 0), "sign"))
            self.assertEqual((hall.log(1), hall.taken_back()), ([outside(5, 1)], 0))
            self.assertNotIn(("do", 1), [action[:2] for action in hall.actions()])

    def test_taken_back_it_stops_nothing(self):
        for hall, behind in self.halls():
            self.act(hall, ("do", 0, outside(0, 0)), ("hear", 1, 0, (3, 0, 0, 0), "sign"))
            for key in ((3, 0, 0, 0), outside(5, 2), outside(6, 3)):
                self.act(hall, ("do", 1, key))
            self.assertEqual(hall.log(1), [(3, 0, 0, 0), outside(5, 2), outside(6, 3)])
            self.check_finish(hall, self.model(behind), self.signs)
            self.assertEqual((hall.outcome(), hall.taken_back()), (("empty",), 1))

    def test_what_a_taken_back_end_had_sent_is_called_back(self):
        hall = next(self.halls())[0]
        self.act(hall, ("do", 0, outside(0, 0)), ("hear", 1, 0, (3, 0, 0, 0), "sign"))
        self.act(hall, ("hear", 2, 1, (6, 0, 1, 0), "sign"), ("hear", 2, 1, (6, 0, 1, 0), "back"))
        self.act(hall, ("do", 1, (3, 0, 0, 0)), ("do", 1, outside(5, 2)), ("do", 1, outside(6, 3)))
        # Neither the say nor the tick at 14 is pending.
        self.assertEqual(hall.actions(), [("do", 0, outside(1, 1))])

    def test_a_back_is_heard_beyond_a_fault(self):
        # Part 2's fault comes of a say that is called back.
        model = Model([
            machine("a", [("go", [send(1, "hit", 3)])]),
            machine("b", [("tick", [("if", ("box", "n"), [], [send(2, "say", 2)])]), ("hit", [ONE_MORE])]),
            machine("c", [("say", [("put", "n", NOUGHT)]), ("own", [("end",)])])])
        signs = [(0, 0, 0, "go", 0, 0), (5, 0, 1, "tick", 0, 0), (6, 0, 2, "deaf", 0, 0), (8, 0, 2, "own", 0, 0)]
        hall = Hall(model, signs, [0, 1, 2], None)
        say = (7, 0, 1, 0)
        self.act(hall, ("do", 1, outside(5, 1)), ("hear", 2, 1, say, "sign"), ("do", 2, outside(6, 2)))
        self.act(hall, ("do", 2, say), ("do", 0, outside(0, 0)), ("hear", 1, 0, (3, 0, 0, 0), "sign"))
        self.assertNotIn(("do", 2), [action[:2] for action in hall.actions()])
        self.act(hall, ("hear", 2, 1, say, "back"))
        self.assertEqual((hall.log(2), hall.taken_back()), ([outside(6, 2)], 2))
        self.act(hall, ("do", 2, outside(8, 3)))
        self.check_finish(hall, model, signs)
        self.assertEqual(hall.outcome(), ("end", outside(8, 3)))

    def test_states_behind_a_taken_back_end(self):
        for hall, behind in self.halls():
            book = hall.finish(100)
            self.assertEqual([record[5] for record in book.records if record[2] == "tick"], [[("n", 21)], [("n", 22)]])
            self.assertEqual(told(book.states[1]), ({"n": 20, "d": 0}, {"q": []}, 0, 0))


class Ahead(Steps):
    """The bound of going ahead."""

    def actions(self, ahead, times, model=None):
        """The possible doings at first, where part after part has a sign at these times."""
        model = model or Model([machine("abcdef"[at], []) for at in range(len(times))])
        signs = [(time, 0, at, "go", 0, 0) for at, time in enumerate(times)]
        hall = Hall(model, signs, list(range(len(times))), ahead)
        return [action[1] for action in hall.actions()]

    def test_none(self):
        self.assertEqual(self.actions(None, [0, 10 ** 6, 5]), [0, 1, 2])

    def test_0(self):
        self.assertEqual(self.actions(0, [4, 5, 4]), [0, 2])
        self.assertEqual(self.actions(0, [9, 5, 6]), [1])

    def test_just_let_and_not(self):
        for first in (0, 3, 1000):
            self.assertEqual(self.actions(9, [first, first + 10]), [0])
            self.assertEqual(self.actions(10, [first, first + 10]), [0, 1])
            self.assertEqual(self.actions(11, [first, first + 10]), [0, 1])

    def test_the_greatest(self):
        self.assertEqual(self.actions(10 ** 6, [0, 10 ** 6]), [0, 1])
        self.assertEqual(self.actions(10 ** 6 - 1, [0, 10 ** 6]), [0])
        self.assertEqual(self.actions(10 ** 6, [0, 10 ** 6 + 1]), [0])

    def test_ranks_do_not_count(self):
        model = Model([machine("a", []), machine("b", [])])
        hall = Hall(model, [(4, 0, 0, "go", 0, 0), (6, 9, 1, "go", 0, 0)], [0, 1], 2)
        self.assertEqual(len(hall.actions()), 2)

    def test_it_goes_with_the_floor(self):
        model = Model([machine("a", []), machine("b", [])])
        signs = [(time, 0, 0, "go", 0, 0) for time in (0, 2, 5)] + [(9, 0, 1, "go", 0, 0)]
        hall = Hall(model, signs, [0, 1], 5)
        for let in ([0], [0], [0, 1]):
            self.assertEqual([action[1] for action in hall.actions()], let)
            hall.step(0)
        self.assertEqual([action[1] for action in hall.actions()], [1])

    def test_a_letter_makes_the_floor_and_hearing_is_not_bound(self):
        model = Model([machine("a", [("go", [send(1, "hit", 20), send(1, "hit", 2)])]), machine("b", [])])
        hall = Hall(model, GO + [(6, 0, 0, "deaf", 0, 0), (7, 0, 1, "deaf", 0, 0)], [0, 1], 4)
        self.act(hall, ("do", 0, outside(0, 0)))
        self.assertEqual(hall.actions(), [("do", 0, outside(6, 1)), ("hear", 1, 0, (20, 0, 0, 0), "sign")])
        self.act(hall, ("hear", 1, 0, (20, 0, 0, 0), "sign"))
        self.assertEqual(hall.actions(), [("do", 0, outside(6, 1)), ("hear", 1, 0, (2, 0, 0, 1), "sign")])
        self.act(hall, ("hear", 1, 0, (2, 0, 0, 1), "sign"), ("do", 1, (2, 0, 0, 1)))
        self.assertEqual(hall.actions(), [("do", 0, outside(6, 1)), ("do", 1, outside(7, 2))])

    def test_by_each_bound_a_hall_comes_to_the_plain_runs_book(self):
        signs = Signs.signs + [(3, 0, 0, "go", 2, 0), (2, 1, 0, "go", 4, 0)]
        for ahead in (None, 0, 1, 2, 3, 10, 10 ** 6):
            hall = Hall(clock(), signs, [0, 1, 2], ahead)
            turn = 0
            while not hall.over():
                hall.step(turn)
                turn += 1
            book = plain(clock(), signs, 100)
            self.assertEqual((hall.settled(), hall.outcome()), (book.records, book.ending))

    def test_by_0_nothing_of_unlike_times_is_taken_back(self):
        hall = Hall(clock(), Signs.signs, [0, 1, 2], 0)
        while not hall.over():
            hall.step(0)
        self.assertEqual(hall.taken_back(), 0)


if __name__ == "__main__":
    unittest.main()
