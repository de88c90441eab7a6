"""Reasons: on which records ahead of it a record leans, and why a box holds what it holds."""

from momentloom.deeds import doing_of
from momentloom.model import first_state


def leans_on(model, records, place):
    """The places of the records on which the one at this place leans, rising."""
    return leanings(model, records[:place + 1])[place]


def reasons(model, records, k, at, box):
    """The places of all on which what the machine's box holds behind k records rests, rising."""
    last = last_writing(records, k, at, box)
    if last is None:
        return []
    leans = leanings(model, records[:last + 1])
    found = {last: True}
    # A record leans on earlier ones alone, so one walk from the last to the first comes by all.
    for place in range(last, -1, -1):
        if place in found:
            for other in leans[place]:
                found[other] = True
    return sorted(found)


def last_writing(records, k, at, box):
    """The place of the last of the first k records that wrote the machine's box, or None."""
    last = None
    for place, record in enumerate(records[:max(k, 0)]):
        if record[1] == at and box in [write[0] for write in record[5]]:
            last = place
    return last


def leanings(model, records):
    """For each record the places on which it leans, rising."""
    states = [first_state(model, at) for at in range(len(model.machines))]
    # The place of the last record that left a trace, by the trace.
    latest = {}
    found = []
    for place, record in enumerate(records):
        at = record[1]
        # Records don't tell what was read or drawn, so their happenings are done once more.
        doing = doing_of(model, states[at], record[:5])
        counted = traces_of_counting(at, states[at], doing.state)
        followed = traces_followed(at, doing) + counted
        found.append(sorted(set([latest[trace] for trace in followed if trace in latest])))
        for trace in traces_left(at, doing) + counted:
            latest[trace] = place
        states[at] = doing.state
    return found


def traces_followed(at, doing):
    """The sender's trace, and those in the boxes and queues that were read."""
    names = list(doing.queued)
    for formula in doing.reckoned:
        names.extend(names_in(formula))
    return [("sign", doing.happening[0])] + [("name", at, name) for name in names]


def names_in(formula):
    """The names of the boxes and queues that stand in a formula."""
    if formula[0] == "box" or formula[0] == "long":
        return [formula[1]]
    if len(formula) == 3:
        return names_in(formula[1]) + names_in(formula[2])
    return []


def traces_left(at, doing):
    signs = [("sign", sent[0]) for sent in doing.outgoing]
    return signs + [("name", at, name) for name in doing.written]


def traces_of_counting(at, before, after):
    """What is both followed and left: a machine's draws and signs are counted from one record to the next."""
    found = []
    if after.drawn > before.drawn:
        found.append(("draws", at))
    if after.sent > before.sent:
        found.append(("signs", at))
    return found
