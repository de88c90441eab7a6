"""Formulas as words: each kind written and read back, and words that are no formula."""

import itertools
import random
import unittest

from momentloom.errors import MomentError, NoText
from momentloom.formulatext import formula_of, formula_words

from samples import GREATEST, line_refused, number
from slowtexts import line_of_formula

ONE = number(1)
TWO = number(2)
LEAVES = (
    (number(0), "0"), (number(1), "1"), (number(-1), "-1"), (number(10), "10"), (number(-907), "-907"),
    (number(GREATEST), "1000000000000000"), (number(-GREATEST), "-1000000000000000"),
    (number(GREATEST - 1), "999999999999999"), (("box", "x"), ".x"), (("box", "abcxyz"), ".abcxyz"),
    (("long", "q"), "#q"), (("long", "number"), "#number"), (("got", 0), "$0"), (("got", 1), "$1"), (("now",), "@"))
KINDS = (("plus", "+"), ("less", "-"), ("times", "*"), ("part", "/"), ("rest", "|"), ("below", "<"), ("same", "="))
WITHIN = (
    (("plus", ("box", "x"), ("times", TWO, ("long", "q"))), "+ .x * 2 #q"),
    (("less", ("less", ONE, TWO), number(3)), "- - 1 2 3"), (("less", ONE, ("less", TWO, number(3))), "- 1 - 2 3"),
    (("less", number(-1), number(-2)), "- -1 -2"), (("rest", ("got", 1), ("got", 0)), "| $1 $0"),
    (("same", ("below", ("now",), ONE), ("part", TWO, ("box", "y"))), "= < @ 1 / 2 .y"))


def deep_to_the_left(parts):
    formula = ONE
    for turn in range(parts // 2):
        formula = ("plus", formula, TWO)
    return formula


def deep_to_the_right(parts):
    formula = ONE
    for turn in range(parts // 2):
        formula = ("times", TWO, formula)
    return formula


def some_formula(chance, inner):
    """A formula with so many formulas that have others within them."""
    if inner == 0:
        return chance.choice(LEAVES)[0]
    left = chance.randrange(inner)
    return (chance.choice(KINDS)[0], some_formula(chance, left), some_formula(chance, inner - 1 - left))


class Writing(unittest.TestCase):
    def check_both_ways(self, formula, text):
        self.assertEqual(formula_words(formula), text)
        self.assertEqual(formula_of(text), formula)

    def test_each_kind_without_others_in_it(self):
        for formula, text in LEAVES:
            with self.subTest(text=text):
                self.check_both_ways(formula, text)

    def test_each_kind_with_two_others_in_their_order(self):
        for kind, word in KINDS:
            with self.subTest(kind=kind):
                self.check_both_ways((kind, number(3), ("box", "x")), word + " 3 .x")
                self.check_both_ways((kind, ("box", "x"), number(-3)), word + " .x -3")

    def test_each_kind_within_each_other(self):
        for kind, word in KINDS:
            for other, within in KINDS:
                self.check_both_ways((kind, (other, ONE, TWO), number(3)), f"{word} {within} 1 2 3")
                self.check_both_ways((kind, ONE, (other, TWO, number(3))), f"{word} 1 {within} 2 3")
            for leaf, text in LEAVES:
                self.check_both_ways((kind, leaf, TWO), f"{word} {text} 2")
                self.check_both_ways((kind, ONE, leaf), f"{word} 1 {text}")

    def test_formulas_within_others(self):
        for formula, text in WITHIN:
            with self.subTest(text=text):
                self.check_both_ways(formula, text)

    def test_numbers_are_whole_numbers(self):
        for text in ("0", "1", "$0", "$1"):
            self.assertIs(type(formula_of(text)[1]), int)

    def test_many_formulas(self):
        chance = random.Random(24)
        for turn in range(500):
            formula = some_formula(chance, turn % 8)
            self.assertEqual(formula_of(formula_words(formula)), formula)


class Parts(unittest.TestCase):
    def test_15_parts(self):
        for formula in (deep_to_the_left(15), deep_to_the_right(15)):
            self.assertEqual(len(formula_words(formula).split(" ")), 15)
            self.assertEqual(formula_of(formula_words(formula)), formula)

    def test_more_than_15_parts_can_be_written_but_not_read(self):
        for formula in (deep_to_the_left(17), deep_to_the_right(17)):
            self.assertEqual(len(formula_words(formula).split(" ")), 17)
            self.assertEqual(line_refused(formula_of, formula_words(formula)), 1)

    def test_16_parts(self):
        # Each kind has none or two within it, so 16 of them are never one formula.
        for formula in (deep_to_the_left(15), deep_to_the_right(15)):
            for text in (formula_words(formula) + " 1", "+ " + formula_words(formula)):
                self.assertEqual(line_refused(formula_of, text), 1)

    def test_very_many_parts(self):
        for text in ("+ " * 60000 + "1 " * 60000 + "1", "+ 1 " * 40000 + "1", "1 " * 90000 + "1", "+ " * 90000 + "+"):
            self.assertEqual(line_refused(formula_of, text), 1)


class Refusals(unittest.TestCase):
    def check_none(self, texts):
        for text in texts:
            with self.subTest(text=text):
                self.assertEqual(line_refused(formula_of, text), 1)

    def test_the_refusal(self):
        with self.assertRaises(NoText) as caught:
            formula_of("")
        self.assertEqual(caught.exception.line, 1)
        self.assertIsInstance(caught.exception, MomentError)

    def test_blanks_at_wrong_places(self):
        self.check_none(["", " ", "  ", " 1", "1 ", "+  1 2", "+ 1  2", " + 1 2", "+ 1 2 ", "+1 2", "+ 1 2  ", ". x"])

    def test_numbers_that_are_none(self):
        self.check_none([
            "00", "01", "007", "-", "-0", "-00", "-01", "--1", "+1", "1-", "1.5", ".5", "1e3", "0x1", "1_0", "1,0",
            "- 1", "1000000000000001", "-1000000000000001", "9" * 20, "9" * 21, "-" + "9" * 21, "9" * 5000, "one",
            "\t1", "1\t"])

    def test_names_that_are_none(self):
        for sign in (".", "#"):
            self.check_none([sign + name for name in (
                "", "X", "x1", "1", "xY", "abcdefg", "x_y", "x-y", ".x", "#x", "x.", "\u00e4", "-", "x\n")])

    def test_words_that_are_none(self):
        self.check_none([
            "x", "$", "$2", "$-1", "$00", "$01", "$x", "$1 ", "$10", "@@", "@x", "@1", "%", "% 1 2", "++", "++ 1 2",
            "plus 1 2", "number 1", "now", "(", ")", "(+ 1 2)", "!", "\u0661", "$\u0661"])

    def test_parts_missing_or_further(self):
        self.check_none([word for kind, word in KINDS])
        self.check_none([word + " 1" for kind, word in KINDS])
        self.check_none([word + " 1 2 3" for kind, word in KINDS])
        self.check_none([
            "1 2", ".x .y", "@ @", "1 +", "1 2 +", "1 + 2", "+ + 1 2", "+ 1 + 2", "+ 1 2 + 3 4", "+ 1 2 +"])

    def test_line_ends(self):
        self.check_none(["\n", "1\n", "\n1", "+ 1\n2", "+\n1 2", "+ 1 2\n", "1\n2", "1\r", "1\r\n"])


class Compared(unittest.TestCase):
    """All texts of some words or signs, and the refusals by another way of reading."""

    def check_texts(self, texts):
        read = 0
        for text in texts:
            line = line_of_formula(text)
            self.assertEqual(line_refused(formula_of, text), line, text)
            if line is None:
                self.assertEqual(formula_words(formula_of(text)), text)
                read += 1
        self.assertGreater(read, 0)

    def test_words(self):
        texts = []
        for count in range(1, 6):
            texts += [" ".join(words) for words in itertools.product(["+", "-", "1", "-1", ".x", ""], repeat=count)]
        self.check_texts(texts)

    def test_signs(self):
        for count in (1, 2, 3):
            self.check_texts(["".join(signs) for signs in itertools.product("0129-+.#$@az_A |\n", repeat=count)])


if __name__ == "__main__":
    unittest.main()
