"""Outside signs as lines: written, read back, each bound at its edge, and the line at which a text is refused."""

import copy
import random
import unittest

from momentloom.booktext import read_signs, signs_text
from momentloom.errors import MomentError, NoText

from samples import GREATEST, line_refused, some_change, some_signs
from slowtexts import line_of_signs

SIGN = "sign 3 4 1 come -2 0"
WORDS = SIGN.split(" ")
NUMBERS_THAT_ARE_NONE = ("", "-", "-0", "01", "-01", "+1", "--1", "x", "1x", "1.0", "1_0", ".x", "$0", "9" * 21, "@")


def with_word(place, word):
    return " ".join(WORDS[:place] + [word] + WORDS[place + 1:])


class Writing(unittest.TestCase):
    def check_both_ways(self, signs, text):
        kept = copy.deepcopy(signs)
        self.assertEqual(signs_text(signs), text)
        self.assertEqual(read_signs(text), signs)
        self.assertEqual(signs, kept)

    def test_none(self):
        self.check_both_ways([], "")

    def test_one(self):
        self.check_both_ways([(3, 4, 1, "come", -2, 0)], "sign 3 4 1 come -2 0")

    def test_several_in_their_order(self):
        self.check_both_ways(
            [(9, 0, 0, "open", 0, 0), (1, 9, 5, "a", GREATEST, -GREATEST), (9, 0, 0, "open", 0, 0),
             (10 ** 6, 3, 2, "abcdef", 7, 8)],
            "sign 9 0 0 open 0 0\nsign 1 9 5 a 1000000000000000 -1000000000000000\nsign 9 0 0 open 0 0\n"
            "sign 1000000 3 2 abcdef 7 8")

    def test_names_may_be_words_of_lines(self):
        self.check_both_ways([(0, 0, 0, "sign", 1, 2)], "sign 0 0 0 sign 1 2")

    def test_many(self):
        chance = random.Random(26)
        for turn in range(200):
            signs = some_signs(chance)
            self.assertEqual(read_signs(signs_text(signs)), signs)

    def test_what_is_told_is_the_askers_own(self):
        told = read_signs(SIGN)
        told.clear()
        self.assertEqual(read_signs(SIGN), [(3, 4, 1, "come", -2, 0)])
        read_signs("").append(1)
        self.assertEqual(read_signs(""), [])

    def test_21_signs_can_be_written(self):
        # With a fork's sign there may be so many.
        self.assertEqual(signs_text([(3, 4, 1, "come", -2, 0)] * 21), "\n".join([SIGN] * 21))


class Refusals(unittest.TestCase):
    def check_lines(self, good, bad):
        for line in good:
            self.assertEqual(signs_text(read_signs(line)), line)
            self.assertEqual(len(read_signs(SIGN + "\n" + line)), 2)
        for line in bad:
            with self.subTest(line=line):
                self.assertEqual(line_refused(read_signs, SIGN + "\n" + line), 2)
                self.assertEqual(line_refused(read_signs, SIGN + "\n" + line + "\n" + SIGN), 2)
                if line != "":
                    self.assertEqual(line_refused(read_signs, line), 1)

    def check_place(self, place, good, bad):
        self.check_lines([with_word(place, word) for word in good], [with_word(place, word) for word in bad])

    def test_the_refusal(self):
        with self.assertRaises(NoText) as caught:
            read_signs("sign")
        self.assertEqual(caught.exception.line, 1)
        self.assertIsInstance(caught.exception, MomentError)

    def test_20_signs_and_21(self):
        for count in (19, 20):
            self.assertEqual(len(read_signs("\n".join([SIGN] * count))), count)
        for count in (21, 22, 300):
            self.assertEqual(line_refused(read_signs, "\n".join([SIGN] * count)), 21)
        self.assertEqual(line_refused(read_signs, "\n".join([SIGN] * 20 + [""])), 21)
        self.assertEqual(line_refused(read_signs, "\n".join([SIGN] * 7 + ["x"] + [SIGN] * 30)), 8)

    def test_times(self):
        self.check_place(1, ("0", "1", "1000000"), NUMBERS_THAT_ARE_NONE + ("-1", "1000001"))

    def test_ranks(self):
        self.check_place(2, [str(rank) for rank in range(10)], NUMBERS_THAT_ARE_NONE + ("-1", "10"))

    def test_machines(self):
        self.check_place(3, [str(to) for to in range(6)], NUMBERS_THAT_ARE_NONE + ("-1", "6"))

    def test_names(self):
        self.check_place(4, ("a", "z", "abcdef"), (
            "", "X", "x1", "1", "abcdefg", "x_y", ".x", "x.", "-", "\u00e4", "x\t", "a b"))

    def test_what_comes_with_them(self):
        for place in (5, 6):
            self.check_place(
                place, ("0", "-1", "1000000000000000", "-1000000000000000"),
                NUMBERS_THAT_ARE_NONE + ("1000000000000001", "-1000000000000001"))

    def test_words_and_blanks(self):
        self.check_lines([], [
            "", " ", " " + SIGN, "  " + SIGN, SIGN + " ", SIGN + " 0", SIGN + "\t", SIGN + "\r", SIGN[:-2], "sign",
            "Sign" + SIGN[4:], "signs" + SIGN[4:], "at" + SIGN[4:], SIGN[5:], SIGN.replace(" ", "  ", 1), "cut"])

    def test_line_ends(self):
        self.assertEqual(line_refused(read_signs, "\n"), 1)
        self.assertEqual(line_refused(read_signs, "\n" + SIGN), 1)
        self.assertEqual(line_refused(read_signs, SIGN + "\n"), 2)
        self.assertEqual(line_refused(read_signs, SIGN + "\n\n" + SIGN), 2)

    def test_each_beginning_is_a_text(self):
        for count in range(21):
            self.assertEqual(len(read_signs("\n".join([SIGN] * count))), count)

    def test_changed_texts(self):
        chance = random.Random(29)
        read = 0
        for turn in range(600):
            text = signs_text(some_signs(chance) + [(10 ** 6, 9, 5, "abcdef", GREATEST, -GREATEST)])
            other = some_change(chance, text)
            line = line_of_signs(other)
            self.assertEqual(line_refused(read_signs, other), line, other)
            if line is None:
                self.assertEqual(signs_text(read_signs(other)), other)
                read += 1
        self.assertGreater(read, 100)


if __name__ == "__main__":
    unittest.main()
