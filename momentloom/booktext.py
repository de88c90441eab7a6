"""Outside signs, and records with an ending, as lines, and how such lines are read."""

from momentloom.errors import NoText
from momentloom.formulatext import is_name, lines_of, number_in, worth_in

FAULTS = ("nought", "great", "full", "dry", "span", "late")


def signs_text(signs):
    """The text of outside signs."""
    return "\n".join([words_of(("sign",) + sign) for sign in signs])


def book_text(records, ending):
    """The text of a list of records and an ending."""
    lines = []
    for record in records:
        lines.append(happening_words("at", record))
        lines.extend(["  " + write_words(write) for write in record[5]])
        lines.extend(["  " + happening_words("sent", sent) for sent in record[6]])
    return "\n".join(lines + [ending_words(ending)])


def words_of(things):
    return " ".join([str(thing) for thing in things])


def happening_words(kind, happening):
    """The line of a happening, or of the one that a record is of."""
    return words_of((kind,) + happening[0] + happening[1:5])


def write_words(write):
    name = write[0]
    if isinstance(write[1], list):
        return words_of(["queue", name] + write[1])
    return words_of(["box", name, write[1]])


def ending_words(ending):
    # An ending with more than its word has a key last.
    if len(ending) == 1:
        return ending[0]
    return words_of(ending[:-1] + ending[-1])


def read_signs(text):
    """The outside signs that are written so; NoText is raised."""
    signs = []
    for place, line in enumerate(lines_of(text)):
        sign = sign_of(line.split(" "))
        if sign is None or place >= 20:
            raise NoText(place + 1)
        signs.append(sign)
    return signs


def sign_of(words):
    """The outside sign that is written as these words, or None."""
    if len(words) != 7 or words[0] != "sign" or not is_name(words[4]):
        return None
    time = number_in(words[1], 0, 10 ** 6)
    rank = number_in(words[2], 0, 9)
    to = number_in(words[3], 0, 5)
    sign = (time, rank, to, words[4], worth_in(words[5]), worth_in(words[6]))
    return None if None in sign else sign


def read_book(text):
    """The tuple (records, ending) that is written so; NoText is raised."""
    lines = lines_of(text)
    records = []
    ending = None
    for place, line in enumerate(lines):
        if ending is not None:
            raise NoText(place + 1)
        ending = ending_of(line.split(" "))
        if ending is None and not take_line(records, line.split(" ")):
            raise NoText(place + 1)
    if ending is None:
        raise NoText(len(lines) + 1)
    return (records, ending)


def ending_of(words):
    """The ending that is written as these words, or None."""
    if words == ["empty"] or words == ["cut"]:
        return (words[0],)
    count = 2 if words[0] == "fault" else 1
    key = numbers_in(words[count:])
    if key is None or len(key) != 4:
        return None
    if words[0] == "end":
        return ("end", tuple(key))
    if words[0] == "fault" and words[1] in FAULTS:
        return ("fault", words[1], tuple(key))
    return None


def take_line(records, words):
    """Put what is written as these words to the records; told is whether it can stand there."""
    happening = happening_of("at", words)
    if happening is not None:
        records.append(happening + ([], []))
        return True
    if not records or words[:2] != ["", ""]:
        return False
    return take_inner(records[-1], words[2:])


def take_inner(record, words):
    """Put what is written as these words to the record's lists; told is whether it can stand there."""
    sent = happening_of("sent", words)
    if sent is not None:
        record[6].append(sent)
        return True
    write = write_of(words)
    # All that was written stands ahead of all that was sent.
    if write is None or record[6]:
        return False
    record[5].append(write)
    return True


def happening_of(kind, words):
    """The happening that is written as these words behind the kind, or None."""
    if len(words) != 9 or words[0] != kind or not is_name(words[6]):
        return None
    numbers = numbers_in(words[1:6] + words[7:])
    if numbers is None:
        return None
    return (tuple(numbers[:4]), numbers[4], words[6], numbers[5], numbers[6])


def write_of(words):
    """The tuple of a name and a worth or list that is written as these words, or None."""
    held = numbers_in(words[2:])
    if len(words) < 2 or not is_name(words[1]) or held is None:
        return None
    if words[0] == "queue":
        return (words[1], held)
    if words[0] == "box" and len(held) == 1:
        return (words[1], held[0])
    return None


def numbers_in(words):
    """The whole numbers, of at most 20 figures, that are written as these words, or None."""
    numbers = [number_in(word, 1 - 10 ** 20, 10 ** 20 - 1) for word in words]
    return None if None in numbers else numbers
