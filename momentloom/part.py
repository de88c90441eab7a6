"""The parts of a hall: what each of them holds and did, and the roads on which their letters go."""

from momentloom.calendar import Calendar
from momentloom.deeds import done
from momentloom.errors import Fault
from momentloom.falling import last_of, place_in, put_in


class Entry:
    """A happening that was done, with its machine's states ahead of it and behind it.

    The record is None where it is a fault; the ending is the one that it brings, or None.
    """

    def __init__(self, happening, before, after, record, ending):
        self.happening = happening
        self.before = before
        self.after = after
        self.record = record
        self.ending = ending


def entry_for(model, state, happening):
    """What comes of doing the happening by this state."""
    try:
        told = done(model, state, happening)
    except Fault as fault:
        return Entry(happening, state, state, None, ("fault", fault.word(), happening[0]))
    return Entry(happening, state, told[0], told[1], ("end", happening[0]) if told[2] else None)


def key_of(entry):
    return entry.happening[0]


def sent_in(entry):
    return [] if entry.record is None else entry.record[6]


def record_of(entry):
    """The record, as one that shares no list with the entry."""
    record = entry.record
    # Askers look at all settled records again and again, and copying each tuple within them would take far longer.
    writes = [(write[0], list(write[1])) if isinstance(write[1], list) else write for write in record[5]]
    return record[:5] + (writes, list(record[6]))


def is_below(entry, floor):
    # No floor counts as the greatest.
    return floor is None or key_of(entry) < floor


class Part:
    """Some machines' states by their numbers, what is pending for them, and the log.

    All that is pending has greater keys than all of the log: the least is done, what it sends comes later, and what
    is heard from elsewhere finds the greater keys taken back. So the log rises, and only its last can be an end or a
    fault.
    """

    def __init__(self, model):
        self.model = model
        self.states = {}
        self.pending = Calendar()
        self.entries = []
        # So many of the log, from its beginning, lie below the floor.
        self.passed = 0

    def least(self):
        """The least key of what is pending, or None."""
        return self.pending.least()

    def await_one(self, happening):
        self.pending.put(happening[0], happening)

    def forget_one(self, happening):
        self.pending.take_out(happening[0])

    def is_stopped(self):
        """Whether the log has an end or a fault."""
        return len(self.entries) > 0 and self.entries[-1].ending is not None

    def reaches(self, key):
        """Whether the log has this key or a greater one."""
        return len(self.entries) > 0 and key_of(self.entries[-1]) >= key

    def do_least(self):
        """Do the least of what is pending; told is what it sent to other parts."""
        happening = self.pending.leave()[1]
        at = happening[1]
        entry = entry_for(self.model, self.states[at], happening)
        self.states[at] = entry.after
        self.entries.append(entry)
        for sent in sent_in(entry):
            if sent[1] in self.states:
                self.await_one(sent)
        return self.sent_elsewhere(entry)

    def take_back_last(self):
        """Take back the last of the log; told is what it had sent to other parts."""
        entry = self.entries.pop()
        self.states[entry.happening[1]] = entry.before
        self.await_one(entry.happening)
        for sent in sent_in(entry):
            if sent[1] in self.states:
                self.forget_one(sent)
        return self.sent_elsewhere(entry)

    def sent_elsewhere(self, entry):
        return [sent for sent in sent_in(entry) if sent[1] not in self.states]

    def pass_below(self, floor):
        """What of the log lies below this floor, and lay below no earlier one."""
        first = self.passed
        while self.passed < len(self.entries) and is_below(self.entries[self.passed], floor):
            self.passed += 1
        return self.entries[first:self.passed]


class Road:
    """The letters on their way from one part to another: tuples (WHAT, HAPPENING), the one sent first ahead."""

    def __init__(self):
        self.letters = []
        # Also in falling order, for the floor; a key may be on its way several times, called back and sent anew.
        self.unheard = []

    def least(self):
        """The least key of what is on its way, or None."""
        return last_of(self.unheard)

    def send(self, letter):
        self.letters.append(letter)
        put_in(self.unheard, letter[1][0])

    def arrive(self):
        """The first letter, which is on its way no more."""
        letter = self.letters.pop(0)
        self.unheard.pop(place_in(self.unheard, letter[1][0]))
        return letter
