"""Reading a model: each bound at its edge and one beyond it, and the line at which what is no model is refused."""

import unittest

from momentloom.errors import MomentError, NoText
from momentloom.modeltext import model_text, read_model

from samples import everything, full_machines, line_refused, shop

NUMBERS_THAT_ARE_NONE = ("", "-", "-0", "01", "-01", "+1", "--1", "x", "1x", "1.0", "1_0", ".x", "$0", "9" * 30)
NAMES_THAT_ARE_NONE = ("", "X", "x1", "1", "abcdefg", "x_y", ".x", "x.", "-", "\u00e4", "x\t")
WHOLE = ["machine m", "  box x 1", "  queue q", "  draws 1 2", "  on a", "    end", "  on b"]
DEEDS = (
    "put x 1", "push q 1", "pull q x", "draw x 1", "send 0 a 0 1 0 0", "end", "if 1", "put x + 1 2",
    "send 0 a 0 + 1 2 * 3 4 - 5 6")


def numbered(name, count):
    """So many names, each unlike."""
    return [name + "abcdefghijklmnopqrstuvwxyz"[place] for place in range(count)]


def formula_of_parts(parts):
    return "+ 1 " * (parts // 2) + "1"


class Lines(unittest.TestCase):
    """What tests of a text's lines ask."""

    def check_read(self, lines):
        text = "\n".join(lines)
        self.assertIsNone(line_refused(read_model, text), text)
        self.assertEqual(model_text(read_model(text)), text)

    def check_refused(self, lines, line):
        text = "\n".join(lines)
        self.assertEqual(line_refused(read_model, text), line, text)
        # What comes behind the line tells nothing, be it a line or not.
        if line <= len(lines):
            for more in ("machine other", "", "    end"):
                self.assertEqual(line_refused(read_model, text + "\n" + more), line, text)

    def check_last(self, lines, good, bad):
        """Behind the lines a good one can stand, and a bad one can't."""
        for line in good:
            self.check_read(lines + [line])
        for line in bad:
            self.check_refused(lines + [line], len(lines) + 1)

    def check_at_edge(self, ahead, many):
        """All of these lines can stand behind those ahead, but for the last one."""
        self.check_read(ahead + many[:-1])
        self.check_refused(ahead + many, len(ahead + many))
        self.check_refused(ahead + many + many[-1:], len(ahead + many))


class Whole(Lines):
    def test_the_refusal(self):
        with self.assertRaises(NoText) as caught:
            read_model("machine")
        self.assertEqual(caught.exception.line, 1)
        self.assertIsInstance(caught.exception, MomentError)

    def test_the_empty_text_has_no_machine(self):
        self.assertEqual(line_refused(read_model, ""), 1)

    def test_line_ends_with_no_line_between(self):
        self.check_refused(["", ""], 1)
        self.check_refused(["", "machine m"], 1)
        for count in range(1, len(WHOLE) + 1):
            self.check_refused(WHOLE[:count] + [""], count + 1)
            self.check_refused(WHOLE[:count] + [""] + WHOLE[count:], count + 1)

    def test_blanks_more(self):
        for lines in (WHOLE, model_text(everything()).split("\n")):
            for place, line in enumerate(lines):
                first = line.lstrip(" ").split(" ")[0]
                for other in (" " + line, line + " ", line + "  ", line.replace(first, first + " ", 1) + " x"):
                    self.check_refused(lines[:place] + [other] + lines[place + 1:], place + 1)
                if " " in line.lstrip(" "):
                    other = line.replace(first + " ", first + "  ", 1)
                    self.check_refused(lines[:place] + [other] + lines[place + 1:], place + 1)

    def test_a_blank_less(self):
        for place, line in enumerate(WHOLE):
            if line.startswith(" "):
                self.check_refused(WHOLE[:place] + [line[1:]] + WHOLE[place + 1:], place + 1)

    def test_other_signs_at_the_place_of_blanks(self):
        for place, line in enumerate(WHOLE):
            if line.startswith(" "):
                for sign in ("x", "-", ".", "\t"):
                    for other in (line.replace("  ", sign * 2), sign + line[1:], line.replace("  ", " " + sign, 1)):
                        self.check_refused(WHOLE[:place] + [other] + WHOLE[place + 1:], place + 1)

    def test_too_deep_or_not_deep_enough(self):
        for place, line in enumerate(WHOLE):
            self.check_refused(WHOLE[:place] + ["  " + line] + WHOLE[place + 1:], place + 1)
            if line.startswith(" "):
                self.check_refused(WHOLE[:place] + [line[2:]] + WHOLE[place + 1:], place + 1)

    def test_lines_that_are_unknown(self):
        for count in range(len(WHOLE) + 1):
            for bad in ("x", "boxes x 1", "Machine z", "machines z", "hear z", "on", "box", "queue", "machine"):
                for blanks in ("", "  ", "    ", "      "):
                    self.check_refused(WHOLE[:count] + [blanks + bad], count + 1)

    def test_a_machine_comes_first(self):
        for line in WHOLE[1:]:
            self.check_refused([line], 1)
            self.check_refused([line.lstrip(" ")], 1)

    def test_signs_that_are_in_no_text(self):
        for place, line in enumerate(WHOLE):
            for sign in ("\t", "\r", "\u00e4", "\u2028", "\x0b", "\x00"):
                self.check_refused(WHOLE[:place] + [line + sign] + WHOLE[place + 1:], place + 1)

    def test_very_long_lines(self):
        for line in (" " * 190000, "+ " * 90000, "    put x " + "+ " * 90000 + "1 " * 9, "1" * 190000, "\n" * 190000):
            self.check_refused(["machine m", "  on a", line], 3)
        self.check_refused(["machine " + "m" * 190000], 1)

    def test_all_bounds_at_once(self):
        self.assertEqual(read_model(model_text(full_machines())), full_machines())


class Machines(Lines):
    def test_names(self):
        self.check_last([], ["machine " + name for name in ("a", "z", "abcdef", "machin")], [
            "machine " + name for name in NAMES_THAT_ARE_NONE + ("machine", "a b", "a 1")])

    def test_six_machines(self):
        self.check_at_edge([], ["machine " + name for name in numbered("m", 7)])

    def test_six_machines_with_something_in_them(self):
        many = []
        for name in numbered("m", 6):
            many += ["machine " + name] + WHOLE[1:]
        self.check_read(many)
        self.check_refused(many + ["machine more"], len(many) + 1)

    def test_names_are_unlike(self):
        self.check_last(WHOLE, ["machine n", "machine x", "machine q", "machine a"], ["machine m"])
        self.check_last(WHOLE + ["machine n"], ["machine x"], ["machine m", "machine n"])


class Boxes(Lines):
    def test_worths(self):
        good = ("0", "1", "-1", "10", "1000000000000000", "-1000000000000000")
        bad = NUMBERS_THAT_ARE_NONE + ("1000000000000001", "-1000000000000001", "1 2", "1 ")
        self.check_last(["machine m"], ["  box x " + worth for worth in good], ["  box x " + worth for worth in bad])

    def test_names(self):
        self.check_last(["machine m"], ["  box abcdef 1", "  box m 1", "  box box 1"], [
            f"  box {name} 1" for name in NAMES_THAT_ARE_NONE] + ["  box x", "  box 1", "  box x 1 1"])

    def test_six_boxes(self):
        self.check_at_edge(["machine m"], [f"  box {name} 1" for name in numbered("b", 7)])

    def test_names_are_unlike(self):
        self.check_last(["machine m", "  box x 1", "  box y 1"], ["  box z 1"], ["  box x 1", "  box x 2", "  box y 1"])
        self.check_read(["machine m", "  box x 1", "machine n", "  box x 1"])


class Queues(Lines):
    def test_names(self):
        self.check_last(["machine m", "  box x 1"], ["  queue q", "  queue abcdef", "  queue m", "  queue queue"], [
            "  queue " + name for name in NAMES_THAT_ARE_NONE] + ["  queue", "  queue q 1", "  queue q r"])

    def test_three_queues(self):
        self.check_at_edge(["machine m"], ["  queue " + name for name in numbered("q", 4)])
        boxes = [f"  box {name} 1" for name in numbered("b", 6)]
        self.check_at_edge(["machine m"] + boxes, ["  queue " + name for name in numbered("q", 4)])

    def test_names_are_unlike_taken_together(self):
        self.check_last(["machine m", "  box x 1", "  queue q"], ["  queue r"], ["  queue q", "  queue x"])
        self.check_read(["machine m", "  queue q", "machine n", "  queue q"])


class Draws(Lines):
    def test_numbers(self):
        good = ("0", "1", "0 0", "1000000000000000", "0 1000000000000000 7")
        bad = ("-1", "1000000000000001", "1 -1", "1 1000000000000001", "1  2", "1 2 ") + NUMBERS_THAT_ARE_NONE
        self.check_last(["machine m"], ["  draws " + draws for draws in good], ["  draws " + draws for draws in bad])
        self.check_last(["machine m"], [], ["  draws 1 2 " + draws for draws in bad])

    def test_no_draws_have_no_line(self):
        self.check_last(["machine m", "  box x 1"], ["  draws 3"], ["  draws", "  draws "])

    def test_twenty_draws(self):
        self.check_last(["machine m"], ["  draws" + " 7" * 20], ["  draws" + " 7" * 21, "  draws" + " 7" * 40])

    def test_draws_once(self):
        self.check_last(["machine m", "  draws 1"], ["  on a"], ["  draws 1", "  draws 2"])


class Hears(Lines):
    def test_names(self):
        self.check_last(["machine m", "  box x 1"], ["  on a", "  on abcdef", "  on x", "  on m", "  on on"], [
            "  on " + name for name in NAMES_THAT_ARE_NONE] + ["  on", "  on a b", "  on a 1"])

    def test_four_signs(self):
        self.check_at_edge(["machine m"], ["  on " + name for name in numbered("s", 5)])
        many = []
        for name in numbered("s", 4):
            many += ["  on " + name, "    if 1", "      end", "    else"]
        self.check_read(["machine m"] + many)
        self.check_refused(["machine m"] + many + ["  on more"], len(many) + 2)

    def test_signs_are_unlike(self):
        self.check_last(WHOLE, ["  on c", "  on x", "  on q", "  on m"], ["  on a", "  on b"])
        self.check_read(["machine m", "  on a", "machine n", "  on a"])


class Order(Lines):
    def test_what_stands_behind_what(self):
        sorts = ["  box x 1", "  queue q", "  draws 5", "  on a"]
        for place, sort in enumerate(sorts):
            self.check_last(["machine m", sort], sorts[place + 1:] + ["machine n"], sorts[:place])
            self.check_last(["machine m"] + sorts[:place + 1], sorts[place + 1:] + ["machine n"], sorts[:place])

    def test_all_that_comes_too_late(self):
        self.check_last(["machine m", "  queue q"], ["  draws 1", "  on a", "machine n"], ["  box x 1"])
        self.check_last(["machine m", "  draws 1"], ["  on a", "machine n"], ["  box x 1", "  queue q"])
        behind = ["  box x 1", "  queue q", "  draws 1"]
        self.check_last(["machine m", "  on a"], ["  on b", "    end", "machine n"], behind)
        self.check_last(["machine m", "  on a", "    end"], ["  on b", "    end", "machine n"], behind)
        open_pull = ["machine m", "  on a", "    pull q x"]
        self.check_last(open_pull, ["  on b", "    end", "      end", "machine n"], behind)

    def test_each_machine_begins_anew(self):
        sorts = ["  box x 1", "  queue q", "  draws 1", "  on a"]
        self.check_last(WHOLE + ["machine n"], sorts, ["    end", "    else"])


class Deeds(Lines):
    def check_deeds(self, good, bad):
        ahead = ["machine m", "  box x 1", "  on a"]
        self.check_last(ahead, ["    " + line for line in good], ["    " + line for line in bad])
        ahead += ["    put x 1", "    pull q x"]
        self.check_last(ahead, ["      " + line for line in good], ["      " + line for line in bad])

    def test_deeds_that_are_none(self):
        self.check_deeds([line for line in DEEDS if not line.startswith("if")], [
            "", "x", "Put x 1", "puts x 1", "set x 1", "number 1", "1", ".x", "else", "else if", "machine n", "on b",
            "box x 1", "end 1", "end end", "ends"])

    def test_each_deed_with_a_word_more_or_less(self):
        bad = []
        for line in DEEDS:
            bad += [line + " 1", line + " x", line + " ", " ".join(line.split(" ")[:-1])]
        self.check_deeds([], [line for line in bad if line != ""])

    def test_put_push_and_draw(self):
        for kind in ("put", "push", "draw"):
            self.check_deeds(
                [f"{kind} abcdef 1", f"{kind} x $1", f"{kind} none @", f"{kind} {kind} + 1 2"],
                [f"{kind} {name} 1" for name in NAMES_THAT_ARE_NONE]
                + [f"{kind} x {formula}" for formula in NUMBERS_THAT_ARE_NONE if formula not in ("-", ".x", "$0")]
                + [kind, f"{kind} x", f"{kind} 1", f"{kind} x -", f"{kind} x $2", f"{kind} x .", f"{kind} x + 1",
                   f"{kind} x 1 2", f"{kind} x  1", f"{kind}  x 1", f"{kind} x 1000000000000001"])

    def test_pull(self):
        self.check_deeds(
            ["pull q x", "pull abcdef abcdef", "pull pull pull"],
            [f"pull {name} x" for name in NAMES_THAT_ARE_NONE] + [f"pull q {name}" for name in NAMES_THAT_ARE_NONE]
            + ["pull", "pull q", "pull q x y", "pull q x 1", "pull  q x", "pull q  x"])

    def test_send(self):
        self.check_deeds(
            [f"send {to} a 0 1 0 0" for to in range(6)] + [f"send 0 a {rank} 1 0 0" for rank in range(10)]
            + ["send 0 abcdef 0 1 0 0", "send 0 a 0 0 0 0", "send 0 a 0 -1 -1 -1", "send 0 a 0 .x #q $0",
               "send 0 a 0 + 1 2 3 4", "send 0 a 0 1 + 2 3 4", "send 0 a 0 1 2 + 3 4", "send 0 a 0 - 1 -1 -1 - 1 2"],
            [f"send {to} a 0 1 0 0" for to in NUMBERS_THAT_ARE_NONE + ("-1", "6", "10")]
            + [f"send 0 a {rank} 1 0 0" for rank in NUMBERS_THAT_ARE_NONE + ("-1", "10", "99")]
            + [f"send 0 {name} 0 1 0 0" for name in NAMES_THAT_ARE_NONE]
            + ["send", "send 0", "send 0 a", "send 0 a 0", "send 0 a 0 1", "send 0 a 0 1 0", "send 0 a 0 1 0 0 0",
               "send 0 a 0 + 1 0 0", "send 0 a 0 1 + 0 0", "send 0 a 0 1 0 +", "send 0 a 0 + 1 0", "send a 0 0 1 0 0",
               "send 0 a 0 1 0 x", "send 0 a 0 x 0 0", "send 0 a 0 1 x 0", "send 0 a 0 1 0 $2"])

    def test_if(self):
        for formula in ("1", "0", "< .x 3", "@", "- 1 -1"):
            self.check_read(["machine m", "  on a", "    if " + formula, "    else"])
        self.check_deeds([], [
            "if", "if ", "if x", "if + 1", "if 1 2", "if 01", "if  1", "if 1 ", "if $2", "if else", "if -"])

    def test_parts_of_formulas(self):
        at, beyond = formula_of_parts(15), formula_of_parts(17)
        self.check_deeds(
            [f"put x {at}", f"push x {at}", f"draw x {at}", f"send 0 a 0 {at} {at} {at}"],
            [f"put x {beyond}", f"push x {beyond}", f"draw x {beyond}", f"if {beyond}", f"send 0 a 0 {beyond} 0 0",
             f"send 0 a 0 1 {beyond} 0", f"send 0 a 0 1 0 {beyond}", f"put x {at} 1", f"put x + {at}"])
        self.check_read(["machine m", "  on a", f"    if {at}", "    else"])

    def test_deeds_only_behind_a_sign(self):
        for count in range(1, 5):
            for line in DEEDS + ("else",):
                self.check_refused(WHOLE[:count] + ["    " + line], count + 1)
                self.check_refused(WHOLE[:count] + ["  " + line], count + 1)


class Counts(Lines):
    ahead = ["machine m", "  on a"]

    def test_twenty_deeds(self):
        self.check_at_edge(self.ahead, ["    end"] * 21)
        self.check_at_edge(self.ahead, [f"    put x {place}" for place in range(21)])

    def test_twenty_for_each_sign(self):
        many = []
        for name in "abcd":
            many += ["  on " + name] + ["    end"] * 20
        self.check_read(["machine m"] + many + ["machine n"] + many)
        for name in ("b", "c", "d"):
            place = many.index("  on " + name)
            lines = ["machine m"] + many[:place] + ["    end"] + many[place:]
            self.check_refused(lines, place + 2)

    def test_twenty_with_those_within_others(self):
        one = ["    if 1", "      end", "    else", "      end", "    pull q x", "      end", "    end"]
        self.assertEqual(len(one) - one.count("    else"), 6)
        self.check_at_edge(self.ahead + one * 3, ["    end"] * 3)

    def test_the_one_too_many_lies_within_others(self):
        ahead = self.ahead + ["    end"] * 18
        self.check_last(ahead + ["    pull q x"], ["      end", "    end", "      pull q x"], [])
        self.check_last(ahead + ["    end", "    pull q x"], ["  on b", "machine n"], ["      end", "    end"])
        within = ahead + ["    if 1"]
        self.check_read(within + ["      end", "    else"])
        self.check_read(within + ["    else", "      end"])
        self.check_refused(within + ["      end", "      end"], len(within) + 2)
        self.check_refused(within + ["      end", "    else", "      end"], len(within) + 3)
        self.check_refused(within + ["      end", "    else", "    end"], len(within) + 3)
        self.check_refused(ahead + ["    end", "    if 1", "      end"], len(ahead) + 3)

    def test_an_else_is_no_deed(self):
        self.check_at_edge(self.ahead, ["    if 1", "    else"] * 20 + ["    if 1"])
        self.check_at_edge(self.ahead, ["    if 1", "    else"] * 20 + ["    end"])


class Depths(Lines):
    def opened(self, kind, depth):
        return ["machine m", "  on a"] + ["  " * (2 + place) + kind for place in range(depth)]

    def test_five_deep_by_pulls(self):
        ahead = self.opened("pull q x", 5)
        self.check_read(ahead)
        self.check_last(ahead, ["  " * place + "end" for place in range(2, 7)], [
            "  " * place + "end" for place in range(7, 12)] + ["  " * 7 + "pull q x", "  " * 7 + "if 1"])

    def test_five_deep_by_ifs(self):
        ahead = self.opened("if 1", 5)
        behind = ["  " * place + "else" for place in range(6, 1, -1)]
        self.check_read(ahead + behind)
        for count in range(5):
            self.check_refused(ahead + behind[:count], len(ahead) + count + 1)
        self.check_refused(ahead + ["  " * 7 + "end"], len(ahead) + 1)
        self.check_refused(ahead + behind[:1] + ["  " * 7 + "end"], len(ahead) + 2)

    def test_a_deed_goes_no_deeper_than_the_lists_that_are_open(self):
        for line in DEEDS:
            self.check_refused(["machine m", "  on a", "      " + line], 3)
            if not line.startswith(("pull", "if")):
                self.check_refused(["machine m", "  on a", "    " + line, "      end"], 4)
        self.check_refused(["machine m", "  on a", "    pull q x", "        end"], 4)
        self.check_refused(["machine m", "  on a", "    if 1", "        end"], 4)
        self.check_refused(["machine m", "  on a", "    if 1", "    else", "        end"], 5)
        self.check_refused(["machine m", "  on a", "    if 1", "    else", "    end", "      end"], 6)
        self.check_refused(["machine m", "  on a", "    pull q x", "    end", "      end"], 5)


class Elses(Lines):
    ahead = ["machine m", "  on a", "    if 1"]

    def test_an_if_without_its_else(self):
        self.check_refused(self.ahead, 4)
        self.check_refused(self.ahead + ["      end"], 5)
        for line in ("    end", "  on b", "machine n", "    if 1", "    put x 1", "  else", "else"):
            self.check_refused(self.ahead + [line], 4)
            self.check_refused(self.ahead + ["      end", line], 5)

    def test_an_else_without_its_if(self):
        for line in ("    else", "      else", "  else", "else"):
            self.check_refused(["machine m", "  on a", line], 3)
            self.check_refused(["machine m", "  on a", "    end", line], 4)
            self.check_refused(["machine m", "  on a", "    pull q x", line], 4)
        self.check_refused(["machine m", "    else"], 2)
        self.check_refused(["else"], 1)

    def test_one_else_for_each_if(self):
        self.check_last(self.ahead + ["    else"], ["      end", "    end", "  on b", "machine n"], [
            "    else", "      else", "  else"])
        self.check_refused(self.ahead + ["    else", "      end", "    else"], 6)

    def test_an_inner_if_has_its_else_first(self):
        inner = self.ahead + ["      if 2"]
        self.check_refused(inner + ["    else"], 5)
        self.check_refused(inner + ["      else"], 6)
        self.check_refused(inner + ["      else", "      else"], 6)
        self.check_read(inner + ["      else", "    else"])
        self.check_refused(inner + ["        end", "    else"], 6)
        self.check_refused(self.ahead + ["    else", "      if 2", "    end"], 6)
        self.check_refused(self.ahead + ["      pull q x", "        if 2", "    else"], 6)

    def test_an_else_stands_just_as_deep_as_its_if(self):
        for line in (
                "   else", "     else", "      else", "  else", "    else ", "    else 1", "    Else", "    else:"):
            self.check_refused(self.ahead + [line], 4)

    def test_each_beginning_of_a_text_with_ifs(self):
        lines = model_text(shop().machines).split("\n")
        lacking = [count for count in range(len(lines) + 1) if line_refused(read_model, "\n".join(lines[:count]))]
        first = lines.index("    if < 3 .last") + 1
        self.assertEqual(lacking, [0] + list(range(first, lines.index("    else") + 1)))
        for count in lacking:
            self.assertEqual(line_refused(read_model, "\n".join(lines[:count])), count + 1)


if __name__ == "__main__":
    unittest.main()
