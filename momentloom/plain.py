"""The plain run: the pending happening with the least key is done, again and again."""

from momentloom.deeds import done
from momentloom.errors import Fault
from momentloom.falling import put_in
from momentloom.model import first_state


class Book:
    """What happened: the records, how the run was over, and the machines' states behind all records."""

    def __init__(self, records, ending, states):
        self.records = records
        self.ending = ending
        self.states = states


def pending_at_first(signs):
    """The outside signs as happenings, in the order of the list."""
    return [((sign[0], sign[1], -1, place), sign[2], sign[3], sign[4], sign[5]) for place, sign in enumerate(signs)]


def plain(model, signs, most):
    """The book of the run for so many records at most."""
    states = [first_state(model, at) for at in range(len(model.machines))]
    # No two keys are alike, so happenings are ordered by their keys alone.
    pending = sorted(pending_at_first(signs), reverse=True)
    records = []
    ending = ending_ahead(pending, records, most)
    while ending is None:
        happening = pending.pop()
        at = happening[1]
        try:
            told = done(model, states[at], happening)
        except Fault as fault:
            ending = ("fault", fault.word(), happening[0])
        else:
            states[at] = told[0]
            records.append(told[1])
            for sent in told[1][6]:
                put_in(pending, sent)
            ending = ("end", happening[0]) if told[2] else ending_ahead(pending, records, most)
    return Book(records, ending, states)


def ending_ahead(pending, records, most):
    """The ending that is due ahead of the next happening, or None."""
    if not pending:
        return ("empty",)
    if len(records) >= most:
        return ("cut",)
    return None
