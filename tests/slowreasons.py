"""Leaning and reasons as the document's point 20 tells them, word by word, and showing as point 23 does.

What a record read is found by a walk of its own through the deeds; all else is searched for anew in the records.
"""

from momentloom.deeds import done
from momentloom.errors import Fault
from momentloom.formulas import worth_of
from momentloom.model import State, first_state


class Walk:
    """The deeds of one record, walked from what the book tells of its machine ahead of it."""

    def __init__(self, model, records, place, drawn):
        self.record = records[place]
        self.machine = model.machines[self.record[1]]
        self.boxes = dict(self.machine[1])
        self.queues = {name: [] for name in self.machine[2]}
        for earlier in records[:place]:
            if earlier[1] == self.record[1]:
                for name, held in earlier[5]:
                    if name in self.boxes:
                        self.boxes[name] = held
                    else:
                        self.queues[name] = list(held)
        self.names = set()
        self.drawn = drawn
        self.walk([deed for sign, deeds in self.machine[4] if sign == self.record[2] for deed in deeds])

    def worth(self, formula):
        self.note(formula)
        state = State(self.boxes, self.queues, 0, 0)
        return worth_of(formula, state, self.record[0][0], [self.record[3], self.record[4]])

    def note(self, formula):
        if formula[0] in ("box", "long"):
            self.names.add(formula[1])
        for part in formula[1:]:
            if isinstance(part, tuple):
                self.note(part)

    def walk(self, deeds):
        for deed in deeds:
            if deed[0] == "put":
                self.boxes[deed[1]] = self.worth(deed[2])
            elif deed[0] == "push":
                worth = self.worth(deed[2])
                self.names.add(deed[1])
                self.queues[deed[1]].append(worth)
            elif deed[0] == "pull":
                self.names.add(deed[1])
                if self.queues[deed[1]]:
                    self.boxes[deed[2]] = self.queues[deed[1]].pop(0)
                else:
                    self.walk(deed[3])
            elif deed[0] == "draw":
                self.boxes[deed[1]] = self.machine[3][self.drawn % len(self.machine[3])] % self.worth(deed[2])
                self.drawn += 1
            elif deed[0] == "send":
                for formula in (deed[3], deed[5], deed[6]):
                    self.worth(formula)
            elif deed[0] == "if":
                self.walk(deed[2] if self.worth(deed[1]) != 0 else deed[3])


def last_of(places):
    return places[-1:]


def slow_leans(model, records):
    """For each record the places on which it leans."""
    drawn = [0] * len(model.machines)
    names = []
    draws = []
    for place, record in enumerate(records):
        walk = Walk(model, records, place, drawn[record[1]])
        names.append(walk.names)
        draws.append(walk.drawn > drawn[record[1]])
        drawn[record[1]] = walk.drawn
    found = []
    for place, record in enumerate(records):
        mine = [other for other in range(place) if records[other][1] == record[1]]
        leans = [other for other in range(place) if record[0] in [sent[0] for sent in records[other][6]]]
        for name in names[place]:
            leans += last_of([other for other in mine if name in dict(records[other][5])])
        if draws[place]:
            leans += last_of([other for other in mine if draws[other]])
        if record[6]:
            leans += last_of([other for other in mine if records[other][6]])
        found.append(sorted(set(leans)))
    return found


def slow_reasons(leans, records, k, at, box):
    found = set(last_of([place for place in range(k) if records[place][1] == at and box in dict(records[place][5])]))
    while True:
        more = {other for place in found for other in leans[place]} - found
        if not more:
            return sorted(found)
        found |= more


def slow_shows(model, signs, records, k, at, box, worth, places):
    if places != sorted(set(places)) or not set(places) <= set(range(k)):
        return False
    wrote = [place for place in range(k) if records[place][1] == at and box in dict(records[place][5])]
    if wrote and wrote[-1] not in places:
        return False
    states = [first_state(model, machine) for machine in range(len(model.machines))]
    for turn, place in enumerate(places):
        happening = records[place][:5]
        outside = [((sign[0], sign[1], -1, count),) + sign[2:] for count, sign in enumerate(signs)]
        if happening not in outside + [sent for earlier in places[:turn] for sent in records[earlier][6]]:
            return False
        try:
            states[happening[1]], record, ends = done(model, states[happening[1]], happening)
        except Fault:
            return False
        if record != records[place]:
            return False
    return states[at].boxes[box] == worth
