"""Calendars: things kept by keys, of which the one with the least key leaves first."""

from momentloom.falling import last_of, place_in, put_in


class Calendar:
    """Things by their keys, no two keys alike; the keys stand in falling rows, here in one alone."""

    def __init__(self):
        self.things = {}
        self.rows = [[]]

    def put(self, key, thing):
        self.things[key] = thing
        put_in(self.row_for(key), key)

    def size(self):
        return len(self.things)

    def least(self):
        """The least key, or None."""
        return last_of(self.rows[0])

    def leave(self):
        """The least key and its thing, which is gone then, or None."""
        key = self.least()
        if key is None:
            return None
        return (key, self.take_out(key))

    def take_out(self, key):
        """The thing with this key, which is gone then, or None."""
        if key not in self.things:
            return None
        row = self.row_for(key)
        row.pop(place_in(row, key))
        return self.things.pop(key)

    def row_for(self, key):
        return self.rows[0]
