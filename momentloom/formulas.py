"""Formulas, and the worths that they come to."""

from momentloom.errors import Great, Nought


def worth_of(formula, state, now, got):
    """The worth of a formula, by a machine's state, the time, and what came with the sign."""
    if len(formula) == 3:
        first = worth_of(formula[1], state, now, got)
        second = worth_of(formula[2], state, now, got)
        number = number_of_two(formula[0], first, second)
    else:
        number = number_of_leaf(formula, state, now, got)
    # Asked of every part, not of the whole alone: what goes too far on the way is a fault too.
    if abs(number) > 10 ** 15:
        raise Great("a number beyond the worths")
    return number


def number_of_leaf(formula, state, now, got):
    kind = formula[0]
    if kind == "number":
        return formula[1]
    if kind == "box":
        return state.boxes[formula[1]]
    if kind == "long":
        return len(state.queues[formula[1]])
    if kind == "got":
        return got[formula[1]]
    return now


def number_of_two(kind, first, second):
    if kind == "plus":
        return first + second
    if kind == "less":
        return first - second
    if kind == "times":
        return first * second
    if kind == "below":
        return 1 if first < second else 0
    if kind == "same":
        return 1 if first == second else 0
    return number_of_division(kind, first, second)


def number_of_division(kind, first, second):
    if second == 0:
        raise Nought("a division by 0")
    # Both of these round down, also where a number is below 0.
    if kind == "part":
        return first // second
    return first % second
