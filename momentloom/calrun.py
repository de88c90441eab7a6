"""The run by a calendar: it keeps what is pending, and tells what comes next."""

from momentloom.deeds import done
from momentloom.errors import Fault
from momentloom.model import first_state
from momentloom.plain import Book, pending_at_first


def by_calendar(model, signs, most, calendar):
    """The plain run's book; an empty calendar is handed in, and it may hold something in the end."""
    states = [first_state(model, at) for at in range(len(model.machines))]
    records = []
    put_all(calendar, pending_at_first(signs))
    ending = None
    while ending is None:
        if calendar.size() == 0:
            ending = ("empty",)
        elif len(records) >= most:
            ending = ("cut",)
        else:
            ending = do_next(model, states, records, calendar)
    return Book(records, ending, states)


def put_all(calendar, happenings):
    for happening in happenings:
        # Whoever made the calendar, it takes tuples of numbers and texts, and a happening has a tuple in it.
        calendar.put(happening[0], happening[1:])


def do_next(model, states, records, calendar):
    """The ending that doing the next happening brings, or None."""
    left = calendar.leave()
    happening = (left[0],) + left[1]
    at = happening[1]
    try:
        told = done(model, states[at], happening)
    except Fault as fault:
        return ("fault", fault.word(), happening[0])
    states[at] = told[0]
    records.append(told[1])
    put_all(calendar, told[1][6])
    return ("end", happening[0]) if told[2] else None
