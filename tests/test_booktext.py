"""Records and an ending as lines: written, read back, and the line at which a text is refused."""

import copy
import random
import unittest

from momentloom.booktext import book_text, read_book
from momentloom.errors import Dry, Full, Great, Late, MomentError, NoText, Nought, Span
from momentloom.model import Model
from momentloom.plain import plain

from samples import (
    CUT, EMPTY, GO, chain, changed_books, line_refused, lively_machines, lively_signs, shop, some_change,
    some_machines, some_signs)
from slowtexts import line_of_book

KEY = (5, 2, 0, 3)
END = ("end", KEY)
WORDS = ("nought", "great", "full", "dry", "span", "late")
PLAIN = (KEY, 1, "come", 7, -8, [], [])
WRITING = ((6, 0, -1, 0), 0, "open", 0, 0, [("seen", 1), ("dice", -4), ("line", [3, -1, 0]), ("other", [])], [])
SENDING = ((7, 0, -1, 1), 1, "serve", 0, 0, [], [((9, 1, 1, 0), 2, "go", 5, 6), ((8, 0, 1, 1), 1, "serve", 0, -1)])
BOTH = ((8, 9, 1, 2), 5, "abcdef", 1, 2, [("x", 0), ("q", [1])], [((9, 0, 5, 0), 0, "a", 0, 0)])
TEXT = """\
at 5 2 0 3 1 come 7 -8
at 6 0 -1 0 0 open 0 0
  box seen 1
  box dice -4
  queue line 3 -1 0
  queue other
at 7 0 -1 1 1 serve 0 0
  sent 9 1 1 0 2 go 5 6
  sent 8 0 1 1 1 serve 0 -1
at 8 9 1 2 5 abcdef 1 2
  box x 0
  queue q 1
  sent 9 0 5 0 0 a 0 0
"""
RECORDS = [PLAIN, WRITING, SENDING, BOTH]
LINES = TEXT.split("\n")[:-1]
AT, BOX, QUEUE, SENT = LINES[0], LINES[2], LINES[4], LINES[7]
ENDINGS = ("end 5 2 0 3", "fault nought 5 2 0 3", "empty", "cut")
NUMBERS_THAT_ARE_NONE = (
    "", "-", "-0", "01", "-01", "+1", "--1", "x", "1x", "1.0", "1_0", ".x", "$0", "@", "1" + "0" * 20, "9" * 21,
    "-" + "9" * 21, "9" * 5000)
NUMBERS_OF_20_FIGURES = ("9" * 20, "-" + "9" * 20, "1" + "0" * 19, "-1" + "0" * 19, "0", "-1", "1000000000000001")
NAMES_THAT_ARE_NONE = ("", "X", "x1", "1", "abcdefg", "x_y", ".x", "x.", "-", "\u00e4", "x\t")


class Writing(unittest.TestCase):
    def check_both_ways(self, records, ending, text):
        kept = copy.deepcopy((records, ending))
        self.assertEqual(book_text(records, ending), text)
        self.assertEqual(read_book(text), (records, ending))
        self.assertEqual((records, ending), kept)

    def test_records(self):
        self.check_both_ways(RECORDS, CUT, TEXT + "cut")

    def test_each_ending(self):
        for records, text in (([], ""), ([PLAIN], LINES[0] + "\n"), (RECORDS, TEXT)):
            self.check_both_ways(records, END, text + "end 5 2 0 3")
            self.check_both_ways(records, EMPTY, text + "empty")
            self.check_both_ways(records, CUT, text + "cut")
            for word in WORDS:
                self.check_both_ways(records, ("fault", word, KEY), text + f"fault {word} 5 2 0 3")

    def test_the_words_are_those_of_the_faults(self):
        for kind in (Nought, Great, Full, Dry, Span, Late):
            word = kind().word()
            self.assertEqual(read_book(f"fault {word} 1 2 3 4"), ([], ("fault", word, (1, 2, 3, 4))))

    def test_a_record_with_nothing_and_with_one_thing_in_it(self):
        head = (KEY, 1, "come", 7, -8)
        sent = ((9, 0, 1, 0), 0, "a", 1, 2)
        self.check_both_ways([head + ([], [])], CUT, f"{AT}\ncut")
        self.check_both_ways([head + ([("x", -5)], [])], CUT, f"{AT}\n  box x -5\ncut")
        self.check_both_ways([head + ([("q", [])], [])], CUT, f"{AT}\n  queue q\ncut")
        self.check_both_ways([head + ([("q", [-5])], [])], CUT, f"{AT}\n  queue q -5\ncut")
        self.check_both_ways([head + ([], [sent])], CUT, f"{AT}\n  sent 9 0 1 0 0 a 1 2\ncut")

    def test_queues_with_no_and_with_many_worths(self):
        for count in (0, 1, 2, 30, 31, 500):
            worths = [(-1) ** place * place for place in range(count)]
            text = "".join([f" {worth}" for worth in worths])
            self.check_both_ways([(KEY, 1, "come", 7, -8, [("q", worths)], [])], CUT, f"{AT}\n  queue q{text}\ncut")

    def test_any_lists(self):
        writes = [("q", [1]), ("x", 2), ("x", 3), ("x", [4]), ("q", [])]
        sent = [((1, 0, 0, 0), 0, "a", 0, 0)] * 2
        self.check_both_ways(
            [PLAIN[:5] + (writes, sent)], CUT,
            f"{AT}\n  queue q 1\n  box x 2\n  box x 3\n  queue x 4\n  queue q\n"
            "  sent 1 0 0 0 0 a 0 0\n  sent 1 0 0 0 0 a 0 0\ncut")

    def test_any_order_of_records(self):
        self.check_both_ways([BOTH, PLAIN, PLAIN], EMPTY, "\n".join(LINES[9:] + [AT, AT, "empty"]))

    def test_numbers_of_20_figures(self):
        great = 10 ** 20 - 1
        key = (great, -great, great, -great)
        text = f"{great} -{great} {great} -{great}"
        writes = [("x", great), ("q", [-great, great])]
        record = (key, great, "a", -great, great, writes, [(key, -great, "b", great, 0)])
        self.check_both_ways(
            [record], ("fault", "late", key),
            f"at {text} {great} a -{great} {great}\n  box x {great}\n  queue q -{great} {great}\n"
            f"  sent {text} -{great} b {great} 0\nfault late {text}")
        self.check_both_ways([], ("end", key), f"end {text}")

    def test_names_may_be_words_of_lines(self):
        for name in ("at", "box", "queue", "sent", "end", "fault", "empty", "cut"):
            record = (KEY, 1, name, 0, 0, [(name, 1), (name, [1])], [(KEY, 1, name, 0, 0)])
            self.check_both_ways(
                [record], CUT,
                f"at 5 2 0 3 1 {name} 0 0\n  box {name} 1\n  queue {name} 1\n  sent 5 2 0 3 1 {name} 0 0\ncut")

    def test_numbers_are_whole_numbers_and_kinds_are_as_told(self):
        records, ending = read_book(TEXT + "end 5 2 0 1")
        self.assertIs(type(read_book(TEXT + "cut")), tuple)
        self.assertIs(type(records), list)
        self.assertIs(type(records[1][5][0][1]), int)
        self.assertIs(type(ending[1]), tuple)

    def test_what_is_told_is_the_askers_own(self):
        records = read_book(TEXT + "cut")[0]
        records[1][5][2][1].append(9)
        records[0][5].append(("x", 1))
        records[0][6].append(1)
        records[1][6].clear()
        records.pop()
        self.assertEqual(read_book(TEXT + "cut"), (RECORDS, CUT))

    def test_the_records_share_no_list(self):
        records = read_book(f"{AT}\n{AT}\ncut")[0]
        records[0][5].append(("x", 1))
        records[0][6].append(1)
        self.assertEqual(records[1], PLAIN)


class Books(unittest.TestCase):
    def check_book(self, book):
        text = book_text(book.records, book.ending)
        self.assertEqual(read_book(text), (book.records, book.ending))
        self.assertIsNone(line_of_book(text))

    def test_books_of_runs(self):
        signs = [(0, 0, 0, "open", 0, 0), (3, 4, 1, "come", 2, 0), (2, 0, 1, "serve", 0, 0)]
        for most in range(25):
            self.check_book(plain(shop(), signs, most))
        self.check_book(plain(chain(6, [("end",)]), GO, 1000))
        self.check_book(plain(chain(10 ** 9, []), GO, 1000))

    def test_books_of_many_runs(self):
        chance = random.Random(30)
        endings = set()
        for turn in range(120):
            model = Model(some_machines(chance) if turn % 2 else lively_machines(chance, 3))
            signs = some_signs(chance) if turn % 2 else lively_signs(chance, 3)
            book = plain(model, signs, 40)
            endings.add(book.ending[0])
            self.check_book(book)
        self.assertEqual(endings, {"end", "fault", "empty", "cut"})

    def test_changed_records_have_other_texts(self):
        book = plain(shop(), [(0, 0, 0, "open", 0, 0), (2, 0, 1, "serve", 0, 0)], 6)
        text = book_text(book.records, book.ending)
        seen = 0
        for records in changed_books(book.records):
            if records != book.records:
                self.assertNotEqual(book_text(records, book.ending), text)
                seen += 1
        self.assertGreater(seen, 100)

    def test_a_long_book(self):
        lines = LINES * 600
        self.assertEqual(len(read_book("\n".join(lines + ["cut"]))[0]), 2400)
        self.assertEqual(line_refused(read_book, "\n".join(lines)), len(lines) + 1)


class Refusals(unittest.TestCase):
    def check_lines(self, ahead, good, bad):
        """Behind the lines a good one can stand, and a bad one can't."""
        for line in good:
            text = "\n".join(ahead + [line] + ([] if line.startswith(("e", "f", "c")) else ["cut"]))
            self.assertIsNone(line_refused(read_book, text), line[:60])
            self.assertEqual(book_text(*read_book(text)), text)
        for line in bad:
            for more in ("", "\ncut", "\nat", "\n" + AT + "\ncut"):
                text = "\n".join(ahead + [line]) + more
                if text != "":
                    self.assertEqual(line_refused(read_book, text), len(ahead) + 1, text[-60:])

    def check_words(self, ahead, line, numbers, names):
        """The line with each of its words changed, numbers and names at these places."""
        words = line.split(" ")
        for place in numbers + names:
            good = NUMBERS_OF_20_FIGURES if place in numbers else ("a", "z", "abcdef")
            bad = NUMBERS_THAT_ARE_NONE if place in numbers else NAMES_THAT_ARE_NONE
            self.check_lines(
                ahead, [" ".join(words[:place] + [word] + words[place + 1:]) for word in good],
                [" ".join(words[:place] + [word] + words[place + 1:]) for word in bad])

    def test_the_refusal(self):
        with self.assertRaises(NoText) as caught:
            read_book("at")
        self.assertEqual(caught.exception.line, 1)
        self.assertIsInstance(caught.exception, MomentError)

    def test_the_empty_text_lacks_an_ending(self):
        self.assertEqual(line_refused(read_book, ""), 1)

    def test_each_beginning_lacks_an_ending(self):
        for count in range(len(LINES) + 1):
            text = "\n".join(LINES[:count])
            self.assertEqual(line_refused(read_book, text), count + 1)
            for ending in ENDINGS:
                self.assertIsNone(line_refused(read_book, "\n".join(LINES[:count] + [ending])))

    def test_nothing_stands_behind_an_ending(self):
        for ahead in ([], LINES):
            for ending in ENDINGS:
                self.check_lines(ahead + [ending], [], (
                    "", " ", "x", AT, BOX, QUEUE, SENT, BOX[2:]) + ENDINGS + tuple("  " + other for other in ENDINGS))

    def test_line_ends(self):
        for text in ("\n", "\ncut", "\n\n"):
            self.assertEqual(line_refused(read_book, text), 1)
        self.check_lines([AT], [], [""])
        self.check_lines([AT, BOX], [], [""])
        self.assertEqual(line_refused(read_book, TEXT), len(LINES) + 1)
        self.assertEqual(line_refused(read_book, TEXT + "cut\n"), len(LINES) + 2)

    def test_words_of_records(self):
        self.check_words([], AT, [1, 2, 3, 4, 5, 7, 8], [6])
        self.check_words(LINES, AT, [1, 2, 3, 4, 5, 7, 8], [6])

    def test_words_of_boxes_and_queues(self):
        for ahead in ([AT], [AT, QUEUE], LINES[:9] + [AT]):
            self.check_words(ahead, BOX, [4], [3])
            self.check_words(ahead, QUEUE, [4, 5, 6], [3])
            self.check_lines(ahead, ["  queue q"], [
                "  box", "  box x", "  box 1", "  box x 1 2", "  box x ", "  box  x 1", "  queue", "  queue ",
                "  queue q ", "  queue q  1", "  queue 1", "  queue 1 q", "  boxes x 1", "  Box x 1", "  put x 1",
                "  at 1 2", "  x"])

    def test_words_of_what_was_sent(self):
        for ahead in ([AT], [AT, QUEUE], [AT, SENT]):
            self.check_words(ahead, SENT, [3, 4, 5, 6, 7, 9, 10], [8])

    def test_words_of_endings(self):
        for ahead in ([], LINES):
            self.check_words(ahead, "end 5 2 0 3", [1, 2, 3, 4], [])
            self.check_words(ahead, "fault nought 5 2 0 3", [2, 3, 4, 5], [])
            self.check_lines(ahead, [f"fault {word} 5 2 0 3" for word in WORDS], [
                f"fault {word} 5 2 0 3" for word in ("", "fault", "Nought", "noughts", "end", "x", "1", "empty")])
            self.check_lines(ahead, [], [
                "end", "end 1 2 3", "end 1 2 3 4 5", "fault", "fault nought", "fault nought 1 2 3", "fault 1 2 3 4",
                "fault nought 1 2 3 4 5", "empty 1", "cut 1", "cut 1 2 3 4", "empty 1 2 3 4", "end nought 1 2 3 4",
                "END", "emptied", "cuts", "Cut", "none", "None", "0"])

    def test_words_more_and_less(self):
        for ahead, line, first, others in (
                ([], AT, "at ", ("sent ", "att ", "At ", "  sent ", "")),
                ([AT], SENT, "  sent ", ("  at ", "  sends ", "  Sent ", "sent ", "  "))):
            words = line.split(" ")
            self.check_lines(ahead, [], [
                " ".join(words[:-1]), line + " 0", line + " x", " ".join(words[:-3] + words[-2:])])
            self.check_lines(ahead, [], [other + line[len(first):] for other in others])

    def test_blanks(self):
        for ahead, line in (([], AT), ([AT], BOX), ([AT], QUEUE), ([AT], SENT), ([AT], ENDINGS[0]), ([AT], ENDINGS[1]),
                            ([AT], "empty"), ([AT], "cut")):
            self.check_lines(ahead, [line], [
                " " + line, "  " + line, "    " + line, line + " ", line + "  ", line + "\t", line + "\r", "\t" + line,
                line[:-2] + "  " + line[-1:]])
            if line.startswith(" "):
                self.check_lines(ahead, [], [line[1:], line[2:]])

    def test_lines_out_of_order(self):
        for line in (BOX, QUEUE, SENT):
            self.check_lines([], [], [line, line[2:]])
        self.check_lines([AT, SENT], [SENT, AT, "cut"], [BOX, QUEUE])
        self.check_lines([AT, BOX, SENT, SENT], [SENT, AT, "cut"], [BOX, QUEUE])
        self.check_lines([AT, SENT, AT], [BOX, QUEUE, SENT, AT, "cut"], [])
        self.check_lines([AT, QUEUE], [BOX, QUEUE, SENT, AT, "cut"], [])

    def test_a_line_that_is_none_at_each_place(self):
        for place in range(len(LINES) + 1):
            for bad in ("", " ", "x", "at", "  at", "  cut", "sign 0 0 0 a 0 0", "machine m", "  sent", "    box x 1"):
                lines = LINES[:place] + [bad] + LINES[place:] + ["cut"]
                self.assertEqual(line_refused(read_book, "\n".join(lines)), place + 1)
                self.assertEqual(line_refused(read_book, "\n".join(lines[:place] + [bad])), place + 1)

    def test_changed_texts(self):
        chance = random.Random(31)
        read = 0
        for turn in range(600):
            model = Model(some_machines(chance) if turn % 2 else lively_machines(chance, 3))
            book = plain(model, some_signs(chance), turn % 9)
            other = some_change(chance, book_text(book.records, book.ending))
            if turn % 3 == 0:
                other = some_change(chance, other)
            line = line_of_book(other)
            self.assertEqual(line_refused(read_book, other), line, other)
            if line is None:
                self.assertEqual(book_text(*read_book(other)), other)
                read += 1
        self.assertGreater(read, 50)


if __name__ == "__main__":
    unittest.main()
