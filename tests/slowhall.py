"""A hall as the document's points 12 to 17 tell it, word by word: everything is searched for anew each time."""

import copy

from momentloom.deeds import done
from momentloom.errors import Fault
from momentloom.model import first_state

PARTS = range(6)


class SlowHall:
    def __init__(self, model, signs, parting, ahead):
        self.model = model
        self.parting = parting
        self.ahead = ahead
        self.states = [first_state(model, at) for at in range(len(model.machines))]
        self.pending = [[] for part in PARTS]
        self.logs = [[] for part in PARTS]
        self.letters = []
        self.backs = 0
        for place, sign in enumerate(signs):
            self.pending[parting[sign[2]]].append(((sign[0], sign[1], -1, place),) + tuple(sign[2:]))

    def floor(self):
        keys = [happening[0] for pending in self.pending for happening in pending]
        return min(keys + [letter["happening"][0] for letter in self.letters], default=None)

    def actions(self):
        if self.over():
            return []
        found = []
        for part in PARTS:
            if self.pending[part] and not any(entry["ending"] for entry in self.logs[part]):
                key = min(self.pending[part])[0]
                if self.ahead is None or key[0] <= self.floor()[0] + self.ahead:
                    found.append(("do", part, key))
        for part in PARTS:
            for other in PARTS:
                letter = self.first_letter(part, other)
                if letter:
                    found.append(("hear", part, other, letter["happening"][0], letter["what"]))
        return found

    def first_letter(self, part, other):
        return next((letter for letter in self.letters if (letter["to"], letter["from"]) == (part, other)), None)

    def step(self, number):
        actions = self.actions()
        if not actions:
            return None
        action = actions[number % len(actions)]
        if action[0] == "do":
            self.do(action[1])
        else:
            self.hear(self.first_letter(action[1], action[2]))
        return action

    def do(self, part):
        happening = min(self.pending[part])
        self.pending[part].remove(happening)
        at = happening[1]
        entry = {"happening": happening, "ahead": copy.deepcopy(self.states[at]), "record": None, "ending": None}
        try:
            self.states[at], entry["record"], ends = done(self.model, self.states[at], happening)
        except Fault as fault:
            entry["ending"] = ("fault", fault.word(), happening[0])
        else:
            entry["ending"] = ("end", happening[0]) if ends else None
            for sent in entry["record"][6]:
                if self.parting[sent[1]] == part:
                    self.pending[part].append(sent)
                else:
                    self.letters.append({
                        "from": part, "to": self.parting[sent[1]], "what": "sign", "happening": sent})
        self.logs[part].append(entry)

    def hear(self, letter):
        # Letters that are alike but for their place are unlike, so not by ==.
        self.letters = [other for other in self.letters if other is not letter]
        part = letter["to"]
        key = letter["happening"][0]
        if letter["what"] == "sign":
            self.take_back_all(part, [entry for entry in self.logs[part] if entry["happening"][0] > key])
            self.pending[part].append(letter["happening"])
        else:
            if key in [entry["happening"][0] for entry in self.logs[part]]:
                self.take_back_all(part, [entry for entry in self.logs[part] if entry["happening"][0] >= key])
            self.pending[part].remove(letter["happening"])

    def take_back_all(self, part, entries):
        for entry in sorted(entries, key=lambda entry: entry["happening"][0], reverse=True):
            self.logs[part].remove(entry)
            self.backs += 1
            self.states[entry["happening"][1]] = entry["ahead"]
            self.pending[part].append(entry["happening"])
            for sent in (entry["record"][6] if entry["record"] else []):
                if self.parting[sent[1]] == part:
                    self.pending[part].remove(sent)
                else:
                    self.letters.append({
                        "from": part, "to": self.parting[sent[1]], "what": "back", "happening": sent})

    def settled_entries(self):
        """All settled entries by their keys, up to the first with an end or that is a fault."""
        floor = self.floor()
        entries = [entry for log in self.logs for entry in log if floor is None or entry["happening"][0] < floor]
        found = []
        for entry in sorted(entries, key=lambda entry: entry["happening"][0]):
            found.append(entry)
            if entry["ending"]:
                break
        return found

    def settled(self):
        return [entry["record"] for entry in self.settled_entries() if entry["record"]]

    def outcome(self):
        entries = self.settled_entries()
        if entries and entries[-1]["ending"]:
            return entries[-1]["ending"]
        return ("empty",) if self.floor() is None else None

    def over(self):
        return self.outcome() is not None

    def log(self, part):
        return sorted(entry["happening"][0] for entry in self.logs[part])

    def taken_back(self):
        return self.backs

    def serve_until(self, most):
        """Goes on as for finishing, and tells nothing."""
        while not self.over() and len(self.settled()) <= most:
            self.serve_floor()

    def serve_floor(self):
        floor = self.floor()
        for part in PARTS:
            for other in PARTS:
                row = [letter for letter in self.letters if (letter["to"], letter["from"]) == (part, other)]
                if floor in [letter["happening"][0] for letter in row]:
                    self.hear(row[0])
                    return
        self.do(next(part for part in PARTS if floor in [happening[0] for happening in self.pending[part]]))


def all_of(hall):
    """All that a hall tells of itself."""
    return {
        "actions": hall.actions(), "floor": hall.floor(), "over": hall.over(), "settled": hall.settled(),
        "outcome": hall.outcome(), "logs": [hall.log(part) for part in PARTS], "taken back": hall.taken_back()}
