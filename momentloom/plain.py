"""The plain run: the pending happening with the least key is done, again and again."""

from momentloom.deeds import done
from momentloom.errors import Fault
from momentloom.falling import put_in
from momentloom.model import first_state


class Book:
    """What happened: the records, how the run was over, and the machines' states behind all records."""

    def __init__(self, records, ending, states):
        self.records = records
        self.ending = ending
        self.states = states


def pending_at_first(signs):
    """The outside signs as happenings, in the order of the list."""
    return [((sign[0], sign[1], -1, place), sign[2], sign[3], sign[4], sign[5]) for place, sign in enumerate(signs)]


class Course:
    """A plain run on its way: the machines' states, and what is pending, in falling order."""

    def __init__(self, model, states, pending):
        self.model = model
        self.states = states
        self.pending = pending
        # The key of the last record, and the ending that an end or a fault brought.
        self.reached = None
        self.stopped = None

    def copy(self):
        other = Course(self.model, [state.copy() for state in self.states], list(self.pending))
        other.reached = self.reached
        other.stopped = self.stopped
        return other

    def ending_due(self, left):
        """The ending that is due where so many records more are let, or None."""
        if self.stopped is not None:
            return self.stopped
        if not self.pending:
            return ("empty",)
        if left <= 0:
            return ("cut",)
        return None

    def do_one(self):
        """The record of the pending happening with the least key, which is done, or None where it is a fault."""
        happening = self.pending.pop()
        at = happening[1]
        try:
            told = done(self.model, self.states[at], happening)
        except Fault as fault:
            self.stopped = ("fault", fault.word(), happening[0])
            return None
        self.states[at] = told[0]
        self.reached = happening[0]
        for sent in told[1][6]:
            put_in(self.pending, sent)
        if told[2]:
            self.stopped = ("end", happening[0])
        return told[1]


def course_at_first(model, signs):
    states = [first_state(model, at) for at in range(len(model.machines))]
    # No two keys are alike, so happenings are ordered by their keys alone.
    return Course(model, states, sorted(pending_at_first(signs), reverse=True))


def run_on(course, most):
    """The tuple (records, ending) of so many records more at most; the course is as far as they are then."""
    records = []
    ending = course.ending_due(most)
    while ending is None:
        record = course.do_one()
        if record is not None:
            records.append(record)
        ending = course.ending_due(most - len(records))
    return (records, ending)


def plain(model, signs, most):
    """The book of the run for so many records at most."""
    course = course_at_first(model, signs)
    told = run_on(course, most)
    return Book(told[0], told[1], course.states)
