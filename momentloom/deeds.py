"""Deeds, and how one happening is done with them."""

from momentloom.errors import Dry, Full, Late, Nought, Span
from momentloom.formulas import worth_of


class Doing:
    """A happening that is being done, and what came of it so far."""

    def __init__(self, machine, state, happening):
        self.machine = machine
        self.happening = happening
        # A fault may come behind some deeds, and then the state handed in must be as it was.
        self.state = state.copy()
        self.written = {}
        self.outgoing = []
        self.ends = False
        # What is read is not told of a happening, but the reasons of a box ask for it.
        self.reckoned = []
        self.queued = {}

    def now(self):
        return self.happening[0][0]

    def reckon(self, formula):
        self.reckoned.append(formula)
        return worth_of(formula, self.state, self.now(), [self.happening[3], self.happening[4]])

    def queue_of(self, name):
        """The queue, to be pushed to or pulled from."""
        self.queued[name] = True
        return self.state.queues[name]

    def fill(self, box, worth):
        self.state.boxes[box] = worth
        self.written[box] = True


def done(model, state, happening):
    """The tuple (state, record, ends) that doing the happening comes to; a Fault is raised."""
    doing = doing_of(model, state, happening)
    record = happening + (writes_of(doing), doing.outgoing)
    return (doing.state, record, doing.ends)


def doing_of(model, state, happening):
    """The happening with all its deeds done; a Fault is raised."""
    machine = model.machines[happening[1]]
    doing = Doing(machine, state, happening)
    do_deeds(doing, deeds_by_sign(machine, happening[2]))
    return doing


def deeds_by_sign(machine, sign):
    for heard in machine[4]:
        if heard[0] == sign:
            return heard[1]
    return []


def writes_of(doing):
    """What was written, in the machine's order, with what it holds in the end."""
    writes = []
    for box in doing.machine[1]:
        if box[0] in doing.written:
            writes.append((box[0], doing.state.boxes[box[0]]))
    for name in doing.machine[2]:
        if name in doing.written:
            # The record must not share its list with the state.
            writes.append((name, list(doing.state.queues[name])))
    return writes


def do_deeds(doing, deeds):
    for deed in deeds:
        do_deed(doing, deed)


def do_deed(doing, deed):
    kind = deed[0]
    if kind == "put":
        doing.fill(deed[1], doing.reckon(deed[2]))
    elif kind == "push":
        do_push(doing, deed[1], deed[2])
    elif kind == "pull":
        do_pull(doing, deed[1], deed[2], deed[3])
    elif kind == "draw":
        do_draw(doing, deed[1], deed[2])
    elif kind == "send":
        do_send(doing, deed)
    elif kind == "if":
        do_deeds(doing, deed[2] if doing.reckon(deed[1]) != 0 else deed[3])
    elif kind == "end":
        doing.ends = True


def do_push(doing, name, formula):
    worth = doing.reckon(formula)
    queue = doing.queue_of(name)
    if len(queue) >= 30:
        raise Full("a queue that has 30 already")
    queue.append(worth)
    doing.written[name] = True


def do_pull(doing, name, box, otherwise):
    queue = doing.queue_of(name)
    if queue:
        doing.fill(box, queue.pop(0))
        doing.written[name] = True
    else:
        do_deeds(doing, otherwise)


def do_draw(doing, box, formula):
    divisor = doing.reckon(formula)
    if divisor < 1:
        raise Nought("a draw's rest by a number below 1")
    draws = doing.machine[3]
    if not draws:
        raise Dry("a machine without draws")
    draw = draws[doing.state.drawn % len(draws)]
    doing.state.drawn += 1
    doing.fill(box, draw % divisor)


def do_send(doing, deed):
    span = doing.reckon(deed[3])
    if span < 1 or span > 10 ** 6:
        raise Span("a span that is not from 1 to 10 ** 6")
    first = doing.reckon(deed[5])
    second = doing.reckon(deed[6])
    when = doing.now() + span
    if when > 10 ** 12:
        raise Late("a time above 10 ** 12")
    key = (when, deed[4], doing.happening[1], doing.state.sent)
    doing.state.sent += 1
    doing.outgoing.append((key, deed[1], deed[2], first, second))
