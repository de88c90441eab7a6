"""Models as lines: machines with nothing and with everything in them, written, and read back."""

import copy
import random
import unittest

from momentloom.model import Model
from momentloom.modeltext import model_text, read_model
from momentloom.plain import plain

from samples import (
    GREATEST, chain, everything, full_machines, line_refused, lively_machines, number, parts_of, send, shop,
    some_change, some_machines)
from slowtexts import line_of_model

EVERYTHING = """\
machine bare
machine rich
  box least -1000000000000000
  box most 1000000000000000
  box x 0
  queue line
  queue q
  draws 0 1000000000000000 7 7
  on idle
  on do
    put x + .x * 2 #q
    push q $0
    pull line most
    pull q x
      put x -1
      pull line least
        end
    draw x - @ -3
    send 5 do 9 + 1 $0 .x #line
    if < .x 3
      if $1
      else
        end
      put most 0
    else
    if 0
    else
      send 0 b 0 1 0 0
      if @
        end
      else
        end
    end
  on b
    end
    end
machine last
  queue only
  draws 5
machine dry
  on x
    draw x 1"""


class Writing(unittest.TestCase):
    def check_both_ways(self, machines, text):
        kept = copy.deepcopy(machines)
        self.assertEqual(model_text(machines), text)
        self.assertEqual(read_model(text), machines)
        self.assertEqual(machines, kept)

    def check_deeds(self, deeds, lines):
        text = "\n".join(["machine m", "  on a"] + ["    " + line for line in lines])
        self.check_both_ways([("m", [], [], [], [("a", deeds)])], text)

    def test_everything(self):
        self.check_both_ways(everything(), EVERYTHING)

    def test_nothing_in_a_machine(self):
        self.check_both_ways([("m", [], [], [], [])], "machine m")
        self.check_both_ways([("m", [], [], [], []), ("abcdef", [], [], [], [])], "machine m\nmachine abcdef")

    def test_one_thing_in_a_machine(self):
        self.check_both_ways([("m", [("x", -5)], [], [], [])], "machine m\n  box x -5")
        self.check_both_ways([("m", [], ["q"], [], [])], "machine m\n  queue q")
        self.check_both_ways([("m", [], [], [0], [])], "machine m\n  draws 0")
        self.check_both_ways([("m", [], [], [], [("a", [])])], "machine m\n  on a")

    def test_lists_are_in_their_order(self):
        self.check_both_ways(
            [("z", [("b", 1), ("a", 2)], ["d", "c"], [3, 1, 2], [("f", []), ("e", [])]), ("a", [], [], [], [])],
            "machine z\n  box b 1\n  box a 2\n  queue d\n  queue c\n  draws 3 1 2\n  on f\n  on e\nmachine a")

    def test_each_deed(self):
        self.check_deeds([("put", "x", ("plus", ("box", "x"), number(1)))], ["put x + .x 1"])
        self.check_deeds([("push", "q", ("got", 1))], ["push q $1"])
        self.check_deeds([("pull", "q", "x", [])], ["pull q x"])
        self.check_deeds([("draw", "x", number(6))], ["draw x 6"])
        self.check_deeds([("end",)], ["end"])
        self.check_deeds([("if", ("now",), [], [])], ["if @", "else"])

    def test_the_rank_of_a_send_stands_ahead_of_its_span(self):
        deed = ("send", 3, "sign", number(10), 7, ("got", 0), ("less", number(4), ("box", "y")))
        self.check_deeds([deed], ["send 3 sign 7 10 $0 - 4 .y"])

    def test_the_three_formulas_of_a_send(self):
        many = ("plus", ("plus", number(1), number(2)), number(-3))
        for place in (3, 5, 6):
            deed = list(send(0, "a", 1))
            deed[place] = many
            words = ["1", "0", "0"]
            words[{3: 0, 5: 1, 6: 2}[place]] = "+ + 1 2 -3"
            self.check_deeds([tuple(deed)], ["send 0 a 0 " + " ".join(words)])

    def test_deeds_of_an_empty_queue(self):
        self.check_deeds([("pull", "q", "x", [("end",)]), ("end",)], ["pull q x", "  end", "end"])
        self.check_deeds([("pull", "q", "x", []), ("end",)], ["pull q x", "end"])

    def test_both_lists_of_an_if(self):
        one, other = ("put", "x", number(1)), ("put", "x", number(2))
        self.check_deeds([("if", number(0), [one], [other])], ["if 0", "  put x 1", "else", "  put x 2"])
        self.check_deeds([("if", number(0), [one, other], [])], ["if 0", "  put x 1", "  put x 2", "else"])
        self.check_deeds([("if", number(0), [], [one, other])], ["if 0", "else", "  put x 1", "  put x 2"])
        self.check_deeds([("if", number(0), [], []), one], ["if 0", "else", "put x 1"])

    def test_ifs_and_pulls_within_one_another(self):
        inner = ("if", number(1), [("end",)], [])
        self.check_deeds([("if", number(0), [inner], [inner])], [
            "if 0", "  if 1", "    end", "  else", "else", "  if 1", "    end", "  else"])
        self.check_deeds([("pull", "q", "x", [inner]), ("end",)], [
            "pull q x", "  if 1", "    end", "  else", "end"])
        self.check_deeds([("if", number(0), [("pull", "q", "x", [])], [("pull", "q", "x", [("end",)])])], [
            "if 0", "  pull q x", "else", "  pull q x", "    end"])

    def test_names_may_be_words_of_lines(self):
        for name in ("box", "queue", "draws", "on", "put", "if", "else", "end"):
            self.check_both_ways(
                [(name, [(name, 1)], [], [], [(name, [("pull", name, name, [("put", name, ("box", name))])])])],
                f"machine {name}\n  box {name} 1\n  on {name}\n    pull {name} {name}\n      put {name} .{name}")

    def test_the_same_names_in_several_machines(self):
        hears = [("a", [("end",)]), ("b", [])]
        self.check_both_ways(
            [("k", [("x", 1)], ["q"], [], hears), ("x", [("x", 1)], ["q"], [], hears),
             ("a", [("a", 1)], ["k"], [], hears)],
            "\n".join([
                "machine k", "  box x 1", "  queue q", "  on a", "    end", "  on b",
                "machine x", "  box x 1", "  queue q", "  on a", "    end", "  on b",
                "machine a", "  box a 1", "  queue k", "  on a", "    end", "  on b"]))

    def test_names_in_deeds_that_are_not_there(self):
        self.check_deeds(
            [("put", "none", ("plus", ("box", "nobox"), ("long", "noline"))), ("push", "none", number(1)),
             ("pull", "none", "nobox", [("draw", "none", number(1))]), send(5, "deaf", 1)],
            ["put none + .nobox #noline", "push none 1", "pull none nobox", "  draw none 1", "send 5 deaf 0 1 0 0"])

    def test_what_would_be_a_fault_is_read_all_the_same(self):
        self.check_deeds(
            [send(0, "a", 0), send(0, "a", 10 ** 6 + 1), ("draw", "x", number(-1)),
             ("put", "x", ("part", number(1), number(0)))],
            ["send 0 a 0 0 0 0", "send 0 a 0 1000001 0 0", "draw x -1", "put x / 1 0"])


class Back(unittest.TestCase):
    def test_the_same_machines(self):
        chance = random.Random(25)
        some = [everything(), full_machines(), shop().machines, chain(6, [("end",)]).machines]
        some += [lively_machines(chance, 1 + turn % 6) for turn in range(60)]
        for machines in some:
            self.assertEqual(read_model(model_text(machines)), machines)

    def test_the_same_run(self):
        signs = [(0, 0, 0, "open", 0, 0), (3, 4, 1, "come", 2, 0)]
        other = Model(read_model(model_text(shop().machines)))
        self.assertEqual(parts_of(plain(other, signs, 100)), parts_of(plain(shop(), signs, 100)))

    def test_what_is_told_is_the_askers_own(self):
        told = read_model(EVERYTHING)
        told[1][1].append(("more", 1))
        told[1][4][1][1].clear()
        told[2][3].append(9)
        told.pop()
        self.assertEqual(read_model(EVERYTHING), everything())

    def test_what_is_told_shares_no_list(self):
        told = read_model("machine a\n  on x\n    pull q b\n    if 0\n    else\nmachine b\n  on x\n    pull q b")
        told[0][1].append(("x", 1))
        told[0][4][0][1][0][3].append(("end",))
        told[0][4][0][1][1][2].append(("end",))
        self.assertEqual(told, [
            ("a", [("x", 1)], [], [], [
                ("x", [("pull", "q", "b", [("end",)]), ("if", number(0), [("end",)], [])])]),
            ("b", [], [], [], [("x", [("pull", "q", "b", [])])])])

    def test_machines_somewhat_beyond_the_bounds_can_be_written(self):
        boxes = [(name, GREATEST + 1) for name in "abcdefg"]
        deeds = [("end",)] * 21
        text = model_text([("m", boxes, [], [], [("a", deeds)])])
        self.assertEqual(len(text.split("\n")), 1 + 7 + 1 + 21)
        self.assertEqual(model_text([]), "")


class Compared(unittest.TestCase):
    """Texts with something changed in them, and the refusals by another way of reading."""

    def check_changed(self, chance, text, turns):
        read = 0
        for turn in range(turns):
            other = text
            for change in range(1 + turn % 3):
                other = some_change(chance, other)
            line = line_of_model(other)
            self.assertEqual(line_refused(read_model, other), line, other)
            if line is None:
                self.assertEqual(model_text(read_model(other)), other)
                read += 1
        return (read, turns - read)

    def test_changed_texts(self):
        chance = random.Random(27)
        for machines in (everything(), shop().machines, chain(6, [("end",)]).machines):
            read, refused = self.check_changed(chance, model_text(machines), 250)
            self.assertGreater(read, 5)
            self.assertGreater(refused, 100)
        self.check_changed(chance, model_text(full_machines()), 20)

    def test_changed_texts_of_many_models(self):
        chance = random.Random(28)
        for turn in range(60):
            machines = some_machines(chance) if turn % 2 else lively_machines(chance, 1 + turn % 5)
            self.check_changed(chance, model_text(machines), 15)

    def test_each_beginning(self):
        for machines in (everything(), full_machines()[:1], shop().machines):
            lines = model_text(machines).split("\n")
            found = []
            for count in range(len(lines) + 1):
                text = "\n".join(lines[:count])
                line = line_refused(read_model, text)
                self.assertEqual(line, line_of_model(text))
                # A beginning of a text is either whole, or something lacks behind its last line.
                self.assertIn(line, (None, count + 1))
                found.append(line is None)
            self.assertIn(False, found[1:])
            self.assertIn(True, found[:-1])


if __name__ == "__main__":
    unittest.main()
