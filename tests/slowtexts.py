"""The line at which a text is refused, found in another way: by one pattern for each sort of line.

Each function tells the line that NoText is to have, or None where the text is one.
"""

import re

NAME = "[a-z]{1,6}"
NUMBER = "(0|-?[1-9][0-9]{0,19})"
KEY = " ".join([NUMBER] * 4)
HAPPENING = f"{KEY} {NUMBER} {NAME} {NUMBER} {NUMBER}"
RECORD = re.compile(f"at {HAPPENING}")
WRITE = re.compile(f"  (box {NAME} {NUMBER}|queue {NAME}( {NUMBER})*)")
SENT = re.compile(f"  sent {HAPPENING}")
ENDING = re.compile(f"end {KEY}|fault (nought|great|full|dry|span|late) {KEY}|empty|cut")
SIGN = re.compile(f"sign {NUMBER} [0-9] [0-5] {NAME} {NUMBER} {NUMBER}")
LEAF = re.compile(f"[.#]{NAME}|[$][01]|@|{NUMBER}")
DEED = re.compile(f"(put|push|draw) {NAME} (.*)|pull {NAME} {NAME}|end|if (.*)|send [0-5] {NAME} [0-9] (.*)")


def is_worth(text):
    return abs(int(text)) <= 10 ** 15


def line_by(lines, takes, whole):
    for place, line in enumerate(lines, start=1):
        if not takes(line):
            return place
    return None if whole() else len(lines) + 1


def lines_in(text):
    return text.split("\n") if text != "" else []


def behind_formula(words, at):
    """The place behind the formula that begins at this place, read from its front, or None."""
    if at >= len(words):
        return None
    if words[at] in ("+", "-", "*", "/", "|", "<", "="):
        middle = behind_formula(words, at + 1)
        return None if middle is None else behind_formula(words, middle)
    if not LEAF.fullmatch(words[at]) or (words[at][-1].isdigit() and words[at][0] != "$" and not is_worth(words[at])):
        return None
    return at + 1


def are_formulas(text, count):
    words = text.split(" ")
    at = 0
    for turn in range(count):
        behind = behind_formula(words, at)
        if behind is None or behind - at > 15:
            return False
        at = behind
    return at == len(words)


def line_of_formula(text):
    return None if are_formulas(text, 1) else 1


def line_of_signs(text):
    seen = []

    def takes(line):
        seen.append(line)
        if not SIGN.fullmatch(line):
            return False
        words = line.split(" ")
        return len(seen) <= 20 and 0 <= int(words[1]) <= 10 ** 6 and is_worth(words[5]) and is_worth(words[6])

    return line_by(lines_in(text), takes, lambda: True)


def line_of_book(text):
    seen = []

    def takes(line):
        last = seen[-1] if seen else "none"
        seen.append(line)
        if ENDING.fullmatch(last):
            return False
        if RECORD.fullmatch(line) or ENDING.fullmatch(line):
            return True
        if SENT.fullmatch(line):
            return last != "none"
        return bool(WRITE.fullmatch(line)) and last != "none" and not SENT.fullmatch(last)

    return line_by(lines_in(text), takes, lambda: bool(seen) and bool(ENDING.fullmatch(seen[-1])))


class Weave:
    """What was read of a model so far, as far as the next line leans on it."""

    def __init__(self):
        self.machines = []
        self.names = []
        self.sorts = []
        self.signs = []
        self.deeds = 0
        # Of the lists of deeds that a line may still go on with, from the sign's own on, what they are of.
        self.lists = []

    def whole(self):
        return len(self.machines) > 0 and "ones" not in self.lists

    def takes(self, line):
        body = line.lstrip(" ")
        blanks = len(line) - len(body)
        if blanks % 2 == 1:
            return False
        if blanks >= 4:
            return self.takes_deed(blanks // 2 - 1, body)
        if "ones" in self.lists:
            return False
        if blanks == 0:
            return self.takes_machine(body)
        return len(self.machines) > 0 and self.takes_inner(body)

    def takes_machine(self, body):
        if not re.fullmatch(f"machine {NAME}", body) or body in self.machines or len(self.machines) == 6:
            return False
        machines = self.machines + [body]
        self.__init__()
        self.machines = machines
        return True

    def takes_inner(self, body):
        sort, name = (body.split(" ") + [""])[:2]
        order = ["box", "queue", "draws", "on"]
        if sort not in order or (self.sorts and order.index(self.sorts[-1]) > order.index(sort)):
            return False
        self.sorts.append(sort)
        if self.sorts.count(sort) > {"box": 6, "queue": 3, "draws": 1, "on": 4}[sort]:
            return False
        self.lists = ["on"] if sort == "on" else []
        self.deeds = 0
        known = self.signs if sort == "on" else self.names
        if sort == "draws":
            fits = re.fullmatch(f"draws( {NUMBER}){{1,20}}", body)
            return bool(fits) and all(0 <= int(draw) <= 10 ** 15 for draw in body.split(" ")[1:])
        if name in known:
            return False
        known.append(name)
        if sort == "box":
            return bool(re.fullmatch(f"box {NAME} {NUMBER}", body)) and is_worth(body.split(" ")[2])
        return bool(re.fullmatch(f"{sort} {NAME}", body))

    def takes_deed(self, depth, body):
        if body == "else":
            fits = self.lists[depth:depth + 1] == ["ones"] and "ones" not in self.lists[depth + 1:]
            self.lists = self.lists[:depth] + ["others"]
            return fits
        self.deeds += 1
        if depth > 5 or depth > len(self.lists) or "ones" in self.lists[depth:] or self.deeds > 20:
            return False
        found = DEED.fullmatch(body)
        opened = {"if": ["ones"], "pull": ["none"]}.get(body.split(" ")[0], [])
        self.lists = self.lists[:depth] + opened
        if not found:
            return False
        for group, count in ((2, 1), (3, 1), (4, 3)):
            if found.group(group) is not None and not are_formulas(found.group(group), count):
                return False
        return True


def line_of_model(text):
    weave = Weave()
    return line_by(lines_in(text), weave.takes, weave.whole)
