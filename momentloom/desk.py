"""A desk: jobs with a model and outside signs, and a journal of which such a desk can be made anew."""

from momentloom.booktext import book_text, read_book
from momentloom.errors import NoModel, NoRoom
from momentloom.hall import Hall
from momentloom.lookers import is_book
from momentloom.model import Model
from momentloom.modeltext import read_model
from momentloom.plain import plain
from momentloom.reasons import reasons


class Desk:
    """A model, None before any loading, with the text that it was loaded from, and the outside signs since then."""

    def __init__(self):
        self.model = None
        self.source = ""
        self.signs = []

    def load(self, text):
        """Take the model that is written so, and forget the signs; NoText is raised."""
        self.model = Model(read_model(text))
        self.source = text
        self.signs = []

    def need_model(self):
        if self.model is None:
            raise NoModel("no model was loaded")

    def sign(self, time, rank, to, name, g, h):
        """The place of the sign, which is put behind the others; NoModel and NoRoom are raised."""
        self.need_model()
        if len(self.signs) >= 20:
            raise NoRoom("there are 20 signs already")
        self.signs.append((time, rank, to, name, g, h))
        return len(self.signs) - 1

    def run(self, most):
        """The text of the plain run's records and ending; NoModel is raised."""
        self.need_model()
        book = plain(self.model, self.signs, most)
        return book_text(book.records, book.ending)

    def parts(self, parting, ahead, numbers, most):
        """The text of the records and ending of a hall that did these steps and then is finished; NoModel is raised."""
        self.need_model()
        hall = Hall(self.model, self.signs, parting, ahead)
        for number in numbers:
            hall.step(number)
        book = hall.finish(most)
        return book_text(book.records, book.ending)

    def why(self, k, at, box):
        """The reasons of the machine's box behind the plain run of k records; NoModel is raised."""
        self.need_model()
        records = plain(self.model, self.signs, k).records
        return reasons(self.model, records, len(records), at, box)

    def check(self, text):
        """Whether the text is that of a book; NoModel and NoText are raised."""
        self.need_model()
        told = read_book(text)
        return is_book(self.model, self.signs, told[0], told[1])

    def journal(self):
        """The last loading, and the signs since then; [] before any loading."""
        if self.model is None:
            return []
        return [("load", self.source)] + [("sign",) + sign for sign in self.signs]


def desk_of(journal):
    """A desk that did what the journal tells."""
    desk = Desk()
    for entry in journal:
        if entry[0] == "load":
            desk.load(entry[1])
        else:
            desk.sign(entry[1], entry[2], entry[3], entry[4], entry[5], entry[6])
    return desk
