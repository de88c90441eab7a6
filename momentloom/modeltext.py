"""Models as lines, and how such lines are read."""

from momentloom.errors import NoText
from momentloom.formulatext import formula_words, formulas_in, is_name, lines_of, number_in, worth_in


def model_text(machines):
    """The text of a model's machines."""
    lines = []
    for machine in machines:
        lines.extend(machine_lines(machine))
    return "\n".join(lines)


def machine_lines(machine):
    lines = ["machine " + machine[0]]
    for name, worth in machine[1]:
        lines.append(f"  box {name} {worth}")
    for name in machine[2]:
        lines.append(f"  queue {name}")
    if machine[3]:
        lines.append(" ".join(["  draws"] + [str(draw) for draw in machine[3]]))
    for sign, deeds in machine[4]:
        lines.append(f"  on {sign}")
        lines.extend(deed_lines(deeds, "    "))
    return lines


def deed_lines(deeds, blanks):
    """The lines of the deeds, with those within others, so many blanks deep."""
    deeper = blanks + "  "
    lines = []
    for deed in deeds:
        lines.append(blanks + deed_words(deed))
        if deed[0] == "pull":
            lines.extend(deed_lines(deed[3], deeper))
        elif deed[0] == "if":
            lines.extend(deed_lines(deed[2], deeper))
            lines.append(blanks + "else")
            lines.extend(deed_lines(deed[3], deeper))
    return lines


def deed_words(deed):
    """The deed's own line, without its blanks."""
    kind = deed[0]
    if kind == "end":
        return "end"
    if kind == "if":
        return "if " + formula_words(deed[1])
    if kind == "pull":
        return " ".join(deed[:3])
    if kind == "send":
        formulas = [formula_words(formula) for formula in (deed[3], deed[5], deed[6])]
        return " ".join(["send", str(deed[1]), deed[2], str(deed[4])] + formulas)
    return " ".join([kind, deed[1], formula_words(deed[2])])


class Lines:
    """A model's lines, which are passed by one after the other, each where it can stand behind those ahead of it.

    So where nothing passes by the next line, it is the one to be refused, or, behind the last one, something lacks.
    """

    def __init__(self, text):
        self.lines = lines_of(text)
        self.place = 0
        # Of the sign whose deeds are read, those within others too.
        self.deed_count = 0

    def is_behind(self):
        """Whether all lines are passed by."""
        return self.place >= len(self.lines)

    def words(self, depth):
        """The words of the next line without its blanks, two for each depth; [""] where there is none so deep."""
        blanks = "  " * depth
        if self.is_behind() or not self.lines[self.place].startswith(blanks):
            return [""]
        # Of a line that is deeper the first word is empty, and so it is of no kind either.
        return self.lines[self.place][len(blanks):].split(" ")

    def named(self, depth, kind, count, names):
        """The words of the next line, where it is of this kind and so many words, and its name new; else None."""
        words = self.words(depth)
        if len(words) != count or words[0] != kind or not is_name(words[1]) or words[1] in names:
            return None
        return words

    def pass_by(self):
        self.place += 1


def read_model(text):
    """The machines of the model that is written so; NoText is raised."""
    lines = Lines(text)
    machines = []
    while len(machines) < 6:
        words = lines.named(0, "machine", 2, [machine[0] for machine in machines])
        if words is None:
            break
        lines.pass_by()
        machines.append(machine_from(lines, words[1]))
    if not machines or not lines.is_behind():
        raise NoText(lines.place + 1)
    return machines


def machine_from(lines, name):
    """The machine of this name, whose first line is passed by."""
    boxes = boxes_from(lines)
    queues = queues_from(lines, [box[0] for box in boxes])
    draws = draws_from(lines)
    return (name, boxes, queues, draws, hears_from(lines))


def boxes_from(lines):
    boxes = []
    while len(boxes) < 6:
        words = lines.named(1, "box", 3, [box[0] for box in boxes])
        worth = None if words is None else worth_in(words[2])
        if worth is None:
            break
        lines.pass_by()
        boxes.append((words[1], worth))
    return boxes


def queues_from(lines, names):
    """The names of the queues, none of them like these names."""
    queues = []
    while len(queues) < 3:
        words = lines.named(1, "queue", 2, names + queues)
        if words is None:
            break
        lines.pass_by()
        queues.append(words[1])
    return queues


def draws_from(lines):
    words = lines.words(1)
    draws = [number_in(word, 0, 10 ** 15) for word in words[1:]]
    # No draws have no line.
    if words[0] != "draws" or not 1 <= len(draws) <= 20 or None in draws:
        return []
    lines.pass_by()
    return draws


def hears_from(lines):
    hears = []
    while len(hears) < 4:
        words = lines.named(1, "on", 2, [heard[0] for heard in hears])
        if words is None:
            break
        lines.pass_by()
        lines.deed_count = 0
        hears.append((words[1], deeds_from(lines, 1)))
    return hears


def deeds_from(lines, depth):
    deeds = []
    deed = deed_from(lines, depth)
    while deed is not None:
        deeds.append(deed)
        deed = deed_from(lines, depth)
    return deeds


def deed_from(lines, depth):
    """The deed of the next line, with those within it, or None where no deed can stand there."""
    if depth > 5 or lines.deed_count >= 20:
        return None
    # The lines of machines and of signs lie above the first depth.
    deed = deed_of(lines.words(depth + 1))
    if deed is None:
        return None
    lines.pass_by()
    lines.deed_count += 1
    if deed[0] == "pull":
        return deed + (deeds_from(lines, depth + 1),)
    if deed[0] == "if":
        ones = deeds_from(lines, depth + 1)
        if lines.words(depth + 1) != ["else"]:
            raise NoText(lines.place + 1)
        lines.pass_by()
        return deed + (ones, deeds_from(lines, depth + 1))
    return deed


def deed_of(words):
    """The deed, without those within it, that is written as these words, or None."""
    kind = words[0]
    if kind == "send":
        return send_of(words)
    if kind == "end":
        return ("end",) if len(words) == 1 else None
    if kind == "pull":
        return tuple(words) if len(words) == 3 and is_name(words[1]) and is_name(words[2]) else None
    if kind == "if":
        found = formulas_in(words[1:], 1)
        return None if found is None else ("if", found[0])
    if kind in ("put", "push", "draw"):
        found = formulas_in(words[2:], 1)
        return None if found is None or not is_name(words[1]) else (kind, words[1], found[0])
    return None


def send_of(words):
    if len(words) < 4 or not is_name(words[2]):
        return None
    to = number_in(words[1], 0, 5)
    rank = number_in(words[3], 0, 9)
    found = formulas_in(words[4:], 3)
    if to is None or rank is None or found is None:
        return None
    return ("send", to, words[2], found[0], rank, found[1], found[2])
