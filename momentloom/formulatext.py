"""Formulas as words, and the lines, numbers and names of which all texts are made."""

from momentloom.errors import NoText

WORDS = {"plus": "+", "less": "-", "times": "*", "part": "/", "rest": "|", "below": "<", "same": "="}
KINDS = {"+": "plus", "-": "less", "*": "times", "/": "part", "|": "rest", "<": "below", "=": "same"}
MOST_PARTS = 15


def formula_words(formula):
    """The text of a formula."""
    kind = formula[0]
    if kind == "number":
        return str(formula[1])
    if kind == "box":
        return "." + formula[1]
    if kind == "long":
        return "#" + formula[1]
    if kind == "got":
        return "$" + str(formula[1])
    if kind == "now":
        return "@"
    return " ".join([WORDS[kind], formula_words(formula[1]), formula_words(formula[2])])


def formula_of(text):
    """The formula that is written so; NoText is raised."""
    found = formulas_in(text.split(" "), 1)
    if found is None:
        raise NoText(1)
    return found[0]


def formulas_in(words, count):
    """So many formulas, where the words are theirs one behind the other, else None."""
    # Without this a text could bring a formula so deep that it can't be walked.
    if len(words) > MOST_PARTS * count:
        return None
    found = []
    # A formula's parts stand behind its word, so from the last word on they are always there already.
    for word in reversed(words):
        formula = leaf_of(word)
        if formula is None:
            if word not in KINDS or len(found) < 2:
                return None
            first = found.pop()
            formula = (KINDS[word], first, found.pop())
        found.append(formula)
    if len(found) != count or max([parts_in(formula) for formula in found]) > MOST_PARTS:
        return None
    return list(reversed(found))


def leaf_of(word):
    """The formula without formulas in it that is written as this word, or None."""
    if word == "@":
        return ("now",)
    name = word[1:]
    if word.startswith(".") and is_name(name):
        return ("box", name)
    if word.startswith("#") and is_name(name):
        return ("long", name)
    if word == "$0" or word == "$1":
        return ("got", int(name))
    worth = worth_in(word)
    return None if worth is None else ("number", worth)


def parts_in(formula):
    if len(formula) == 3:
        return 1 + parts_in(formula[1]) + parts_in(formula[2])
    return 1


def lines_of(text):
    # The empty text has no line, while splitting it would tell one.
    return text.split("\n") if text else []


def is_name(word):
    return 1 <= len(word) <= 6 and all(["a" <= sign <= "z" for sign in word])


def worth_in(word):
    """The worth that is written so, or None."""
    return number_in(word, -(10 ** 15), 10 ** 15)


def number_in(word, least, most):
    """The whole number that is written so, if it is one from least to most, else None."""
    # No number that is read has more than 20 figures, and of very many Python may make one slowly, or none at all.
    if len(word) > 21:
        return None
    try:
        number = int(word)
    except ValueError:
        return None
    # Python also takes noughts ahead, a plus, blanks and more, which are never in a number's own figures.
    if str(number) != word or number < least or number > most:
        return None
    return number
