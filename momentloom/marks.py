"""Marks: a keeper runs plainly, and keeps at some places all that is needed to go on from there."""

from momentloom.errors import NoMark
from momentloom.model import Model
from momentloom.plain import Book, course_at_first, run_on


class Keeper:
    """Runs of a model and outside signs, and a course for each mark of the last run."""

    def __init__(self, model, signs, every):
        # What is done with the model and the signs behind this call must change nothing.
        self.model = Model(model.machines)
        self.signs = list(signs)
        # Marks can't stand closer than behind each record.
        self.every = max(every, 1)
        self.kept = {0: course_at_first(self.model, self.signs)}

    def run(self, most):
        """The plain run's book; the marks are those of this run from now on."""
        course = course_at_first(self.model, self.signs)
        # A book's states are the asker's own, so a mark can't share them.
        self.kept = {0: course.copy()}
        records = []
        ending = course.ending_due(most)
        while ending is None:
            told = run_on(course, min(self.every, most - len(records)))
            records.extend(told[0])
            # A fault uses the course up, and then no mark is due: the one ahead of the fault is there already.
            if len(told[0]) == self.every:
                self.kept[len(records)] = course.copy()
            ending = course.ending_due(most - len(records))
        return Book(records, ending, course.states)

    def marks(self):
        """The numbers of records behind which marks stand, rising."""
        return sorted(self.kept)

    def cut(self, number):
        """Forget all marks below this number, till the next run."""
        left = {}
        for mark, course in self.kept.items():
            if mark >= number:
                left[mark] = course
        self.kept = left

    def go_on(self, number, most):
        """The tuple (records, ending) of so many records at most behind the mark; NoMark is raised."""
        return run_on(self.course_from(number), most)

    def course_from(self, number):
        """A course of the asker's own, as it was at the mark; NoMark is raised."""
        if number not in self.kept:
            raise NoMark("a mark that is not kept")
        return self.kept[number].copy()
