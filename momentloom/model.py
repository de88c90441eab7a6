"""Models of machines, and the states that the machines are in."""


def copied(thing):
    """A copy that shares no list with the thing, however deep it lies."""
    if isinstance(thing, list):
        return [copied(part) for part in thing]
    if isinstance(thing, tuple):
        # A tuple can't be changed, but the lists within it can.
        return tuple([copied(part) for part in thing])
    return thing


class Model:
    """Machines, each a tuple (NAME, BOXES, QUEUES, DRAWS, HEARS)."""

    def __init__(self, machines):
        self.machines = copied(machines)


class State:
    """What one machine holds, and how many draws and signs it has used up."""

    def __init__(self, boxes, queues, drawn, sent):
        self.boxes = boxes
        self.queues = queues
        self.drawn = drawn
        self.sent = sent

    def copy(self):
        queues = {}
        for name, worths in self.queues.items():
            queues[name] = list(worths)
        return State(dict(self.boxes), queues, self.drawn, self.sent)


def first_state(model, at):
    """The state of machine number at, ahead of all happenings."""
    machine = model.machines[at]
    queues = {}
    for name in machine[2]:
        queues[name] = []
    return State(dict(machine[1]), queues, 0, 0)
