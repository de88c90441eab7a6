"""Lookers: whether what is told of a run is so."""

from momentloom.deeds import done
from momentloom.errors import Fault
from momentloom.model import first_state
from momentloom.plain import pending_at_first, plain
from momentloom.reasons import last_writing


def is_book(model, signs, records, ending):
    """Whether these are the records and the ending of a plain run, for some number of records."""
    # A fault is come to only where one record more is let.
    most = len(records) if ending == ("cut",) else len(records) + 1
    book = plain(model, signs, most)
    return book.records == records and book.ending == ending


def shows(model, signs, records, k, at, box, worth, places):
    """Whether the records at these places, done alone, show that the machine's box has the worth behind k records."""
    if not are_rising(places, min(k, len(records))):
        return False
    last = last_writing(records, k, at, box)
    if last is not None and last not in places:
        return False
    states = states_behind(model, signs, [records[place] for place in places])
    return states is not None and states[at].boxes.get(box) == worth


def are_rising(places, count):
    """Whether the places rise strictly, each from 0 to below the count."""
    lowest = 0
    for place in places:
        if place < lowest or place >= count:
            return False
        lowest = place + 1
    return True


def states_behind(model, signs, records):
    """The machines' states behind these records, done alone, or None where they are not what is done."""
    states = [first_state(model, at) for at in range(len(model.machines))]
    known = {}
    for happening in pending_at_first(signs):
        known[happening] = True
    for record in records:
        # It stays known when it is done: to do it twice is allowed.
        if record[:5] not in known or not is_done(model, states, record):
            return None
        for sent in record[6]:
            known[sent] = True
    return states


def is_done(model, states, record):
    """Whether doing its happening comes to just this record; its machine's state is then the one behind it."""
    at = record[1]
    try:
        told = done(model, states[at], record[:5])
    except Fault:
        return False
    states[at] = told[0]
    return told[1] == record
