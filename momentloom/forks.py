"""Forks: what would have come behind a mark with one outside sign more."""

from momentloom.errors import TooLate
from momentloom.falling import put_in
from momentloom.plain import pending_at_first, run_on


def fork(keeper, number, sign, most):
    """The tuple (records, ending) behind the mark, of so many records at most; NoMark and TooLate are raised."""
    course = keeper.course_from(number)
    happening = pending_at_first(keeper.signs + [sign])[-1]
    if course.reached is not None and happening[0] <= course.reached:
        raise TooLate("a sign that would have come ahead of the mark")
    put_in(course.pending, happening)
    return run_on(course, most)
