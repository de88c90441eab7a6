"""Wheels: calendars that look for the least key where it was last, and a little further on."""

from momentloom.calendar import Calendar
from momentloom.falling import last_of, put_in

ROWS = 64


class Wheel(Calendar):
    """A calendar of many rows; time is cut into stretches of a span each, which come to the rows by turns."""

    def __init__(self, span):
        Calendar.__init__(self)
        self.rows = [[] for place in range(ROWS)]
        # By a span below 1 time can't be cut.
        self.span = max(span, 1)
        # Nothing lies in a stretch ahead of this one.
        self.earliest = 0

    def put(self, key, thing):
        self.earliest = min(self.earliest, self.stretch_of(key))
        self.things[key] = thing
        put_in(self.row_for(key), key)

    def least(self):
        """The least key, or None."""
        if not self.things:
            return None
        key = self.least_in_one_turn()
        if key is None:
            # All lie beyond a whole turn, and going there stretch by stretch could take long.
            key = min([row[-1] for row in self.rows if row])
        self.earliest = self.stretch_of(key)
        return key

    def least_in_one_turn(self):
        """The least key, where it lies less than a turn behind the earliest stretch, else None."""
        for stretch in range(self.earliest, self.earliest + ROWS):
            key = last_of(self.rows[stretch % ROWS])
            # A row may hold nothing but what comes turns later.
            if key is not None and self.stretch_of(key) == stretch:
                return key
        return None

    def row_for(self, key):
        return self.rows[self.stretch_of(key) % ROWS]

    def stretch_of(self, key):
        return key[0] // self.span
