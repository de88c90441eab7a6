"""Halls: the machines are parted, each part goes ahead by itself, and takes back what it did too early."""

from momentloom.model import Model, first_state
from momentloom.part import Part, Road, key_of, record_of
from momentloom.plain import Book, pending_at_first


def parts_by_number(model, parting):
    """The parts that have a machine, rising; one that has none can neither do nor hear anything."""
    parts = {}
    for number in sorted(set(parting)):
        parts[number] = Part(model)
    for at in range(len(model.machines)):
        parts[parting[at]].states[at] = first_state(model, at)
    return parts


def roads_by_ends(numbers):
    """A road for each two parts, by (TO, FROM), in the order in which hearing is told."""
    roads = {}
    for number in numbers:
        for other in numbers:
            if other != number:
                roads[(number, other)] = Road()
    return roads


class Hall:
    """Parts that go ahead of one another, with letters between them; what lies below the floor is settled."""

    def __init__(self, model, signs, parting, ahead):
        # What is done with the model and the parting behind this call must change nothing.
        self.model = Model(model.machines)
        self.parting = list(parting)
        self.ahead = ahead
        self.members = parts_by_number(self.model, self.parting)
        self.roads = roads_by_ends(list(self.members))
        # The settled happenings that have records, by their keys, and the ending, if one is due.
        self.certain = []
        self.ending = None
        self.back_count = 0
        for happening in pending_at_first(signs):
            self.members[self.parting[happening[1]]].await_one(happening)
        self.settle()

    def actions(self):
        """The possible actions, in their order."""
        if self.over():
            return []
        return self.possible_doings() + self.possible_hearings()

    def possible_doings(self):
        floor = self.floor()
        found = []
        for number, member in self.members.items():
            if self.may_do(member, floor):
                found.append(("do", number, member.least()))
        return found

    def may_do(self, member, floor):
        key = member.least()
        if key is None or member.is_stopped():
            return False
        return self.ahead is None or key[0] <= floor[0] + self.ahead

    def possible_hearings(self):
        found = []
        for ends, road in self.roads.items():
            if road.letters:
                letter = road.letters[0]
                found.append(("hear", ends[0], ends[1], letter[1][0], letter[0]))
        return found

    def step(self, number):
        """The action at this place, counted round and round, which is done then, or None."""
        possible = self.actions()
        if not possible:
            return None
        action = possible[number % len(possible)]
        if action[0] == "do":
            self.do_in(action[1])
        else:
            self.hear_on((action[1], action[2]))
        return action

    def do_in(self, number):
        self.send_all(number, "sign", self.members[number].do_least())
        self.settle()

    def hear_on(self, ends):
        """Hear the first letter on the road between these ends."""
        letter = self.roads[ends].arrive()
        happening = letter[1]
        member = self.members[ends[0]]
        # The key of a sign is in no log, and where that of a back is not, no greater one is either.
        while member.reaches(happening[0]):
            self.send_all(ends[0], "back", member.take_back_last())
            self.back_count += 1
        if letter[0] == "sign":
            member.await_one(happening)
        else:
            member.forget_one(happening)
        self.settle()

    def send_all(self, number, what, happenings):
        for happening in happenings:
            self.roads[(self.parting[happening[1]], number)].send((what, happening))

    def floor(self):
        """The least key of all that is pending or on its way, or None."""
        found = [member.least() for member in self.members.values()]
        found.extend([road.least() for road in self.roads.values()])
        return min([key for key in found if key is not None], default=None)

    def settle(self):
        """Take up what the floor has passed by, up to what makes the hall over."""
        floor = self.floor()
        found = []
        for member in self.members.values():
            found.extend(member.pass_below(floor))
        # The floor never falls, so all of these lie behind what it passed by earlier.
        for entry in sorted(found, key=key_of):
            if self.ending is None:
                self.ending = entry.ending
                if entry.record is not None:
                    self.certain.append(entry)
        if floor is None and self.ending is None:
            self.ending = ("empty",)

    def over(self):
        return self.ending is not None

    def outcome(self):
        """The ending, or None where the hall is not over."""
        return self.ending

    def settled(self):
        """The settled records, by their keys."""
        return [record_of(entry) for entry in self.certain]

    def log(self, part):
        """The keys in the part's log, rising."""
        if part not in self.members:
            return []
        return [key_of(entry) for entry in self.members[part].entries]

    def taken_back(self):
        """How many times a happening was taken back so far."""
        return self.back_count

    def finish(self, most):
        """The plain run's book for so many records; the hall goes on for it as far as is needed."""
        while not self.over() and len(self.certain) <= most:
            self.serve_floor()
        kept = self.certain[:max(most, 0)]
        records = [record_of(entry) for entry in kept]
        return Book(records, self.ending_behind(len(kept), most), self.states_behind(kept))

    def serve_floor(self):
        floor = self.floor()
        served = [ends for ends, road in self.roads.items() if road.least() == floor]
        if served:
            self.hear_on(served[0])
        else:
            waiting = [number for number, member in self.members.items() if member.least() == floor]
            self.do_in(waiting[0])

    def ending_behind(self, count, most):
        """The plain run's ending for so many records at most, count of them being there."""
        if self.ending is None or count < len(self.certain):
            return ("cut",)
        if self.ending[0] == "fault" and count >= most:
            # The plain run does not come to doing what is a fault.
            return ("cut",)
        return self.ending

    def states_behind(self, entries):
        states = [first_state(self.model, at) for at in range(len(self.model.machines))]
        for entry in entries:
            states[entry.happening[1]] = entry.after
        return [state.copy() for state in states]
