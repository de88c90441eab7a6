"""Models, signs and texts that several tests use, and how their states, books and refusals are compared."""

from momentloom.errors import NoText
from momentloom.model import Model

GREATEST = 10 ** 15
NOUGHT = ("part", ("number", 1), ("number", 0))
EMPTY = ("empty",)
CUT = ("cut",)


def number(worth):
    return ("number", worth)


def send(to, sign, span, rank=0, g=number(0), h=number(0)):
    return ("send", to, sign, number(span), rank, g, h)


def told(state):
    return (state.boxes, state.queues, state.drawn, state.sent)


def parts_of(book):
    return (book.records, book.ending, [told(state) for state in book.states])


def keys_of(book):
    return [record[0] for record in book.records]


def shop():
    """Each sort of deed in a model whose run goes on for ever, if nothing of it is left out."""
    return Model([
        ("gate", [("seen", 0), ("dice", 0)], [], [4, 1, 5, 9, 2], [
            ("open", [
                ("put", "seen", ("plus", ("box", "seen"), number(1))), ("draw", "dice", number(6)),
                ("send", 1, "come", ("plus", ("box", "dice"), number(1)), 2, ("box", "seen"), ("now",)),
                send(0, "open", 3)])]),
        ("desk", [("last", -1), ("idle", 0)], ["line"], [], [
            ("come", [("push", "line", ("got", 0)), send(1, "serve", 2, 1), send(1, "deaf", 1, 9)]),
            ("serve", [
                ("pull", "line", "last", [("put", "idle", ("plus", ("box", "idle"), number(1)))]),
                ("if", ("below", number(3), ("box", "last")), [("end",), send(0, "open", 9)], [])])]),
    ])


def chain(steps, behind):
    """One machine that does so many steps of its own, a time apart, and then the deeds behind."""
    return Model([("m", [("n", 0)], ["q"], [], [
        ("go", [
            ("put", "n", ("plus", ("box", "n"), number(1))),
            ("if", ("below", ("box", "n"), number(steps)), [send(0, "go", 1)], behind)]),
        ("halt", [("end",)]), ("bad", [("push", "q", number(1)), send(0, "go", 1), ("put", "n", NOUGHT)])])])


GO = [(0, 0, 0, "go", 0, 0)]


def some_machines(chance):
    def formula(deep):
        if deep == 0 or chance.random() < 0.4:
            return chance.choice([
                number(chance.randrange(-2, 9)), ("box", "x"), ("box", "y"), ("long", "q"), ("got", 0), ("now",)])
        kind = chance.choice(["plus", "less", "times", "part", "rest", "below", "same"])
        return (kind, formula(deep - 1), formula(deep - 1))

    def deed(deep):
        kind = chance.choice(["put", "push", "push", "pull", "draw", "send", "send", "if", "end"])
        if kind == "put" or (kind == "end" and chance.random() < 0.7):
            return ("put", chance.choice("xy"), formula(2))
        if kind == "push":
            return ("push", "q", formula(1))
        if kind == "pull":
            return ("pull", "q", "x", deeds(deep - 1))
        if kind == "draw":
            return ("draw", "y", number(chance.randrange(1, 9)))
        if kind == "send":
            span = number(chance.randrange(1, 4)) if chance.random() < 0.9 else formula(1)
            return ("send", chance.randrange(3), chance.choice("ab"), span, chance.randrange(3), formula(1), formula(1))
        if kind == "if":
            return ("if", formula(2), deeds(deep - 1), deeds(deep - 1))
        return ("end",)

    def deeds(deep):
        return [deed(deep) for place in range(chance.randrange(4) if deep > 0 else 0)]

    return [
        ("klm"[at], [("x", 1), ("y", 2)], ["q"], [3, 14, 15], [(sign, deeds(3)) for sign in "ab"]) for at in range(3)]


def some_signs(chance):
    return [
        (chance.randrange(6), chance.randrange(3), chance.randrange(3), chance.choice("ab"), chance.randrange(-3, 9), 0)
        for place in range(chance.randrange(6))]


def lively_machines(chance, count):
    """Machines that go on for long: what they do and to whom they send leans on what came ahead."""
    def to_one(span, got):
        return (
            "send", chance.randrange(count), chance.choice("abc"), span, chance.randrange(3),
            ("rest", ("plus", ("box", "x"), got), number(7)), ("now",))

    def some_send():
        span = ("plus", number(chance.randrange(1, 4)), ("rest", ("times", ("box", "x"), ("box", "x")), number(5)))
        got = chance.choice([("got", 0), ("box", "y"), number(3), ("long", "q")])
        if chance.random() < 0.5:
            return to_one(span, got)
        test = chance.choice([
            ("rest", ("box", "x"), number(2)), ("below", ("box", "y"), number(3)), ("same", ("long", "q"), number(1)),
            ("below", ("got", 0), number(4))])
        return ("if", test, [to_one(span, got)], [to_one(number(chance.randrange(1, 9)), got)])

    def some_deed():
        return chance.choice([
            ("put", "x", ("rest", ("plus", ("times", ("box", "x"), number(3)), ("got", 0)), number(11))),
            ("put", "y", ("plus", ("rest", ("box", "y"), number(9)), ("rest", ("now",), number(4)))),
            ("if", ("below", ("long", "q"), number(9)), [("push", "q", ("box", "x"))], [("pull", "q", "y", [])]),
            ("pull", "q", "x", [("push", "q", ("now",))]), ("draw", "y", number(chance.randrange(2, 12)))])

    def rare():
        """An end or a fault that comes, or is wrongly come to, at some times alone."""
        late = ("below", number(chance.choice([3, 8, 15, 30])), ("now",))
        test = ("times", late, ("same", ("box", "x"), number(chance.randrange(11))))
        return ("if", test, [chance.choice([("end",), ("put", "x", NOUGHT), send(0, "a", 0)])], [])

    def deeds():
        found = [some_deed(), some_deed(), some_send()]
        if chance.random() < 0.3:
            found.append(some_send())
        if chance.random() < 0.2:
            found.append(rare())
        return chance.sample(found, len(found))

    return [
        ("klmnop"[at], [("x", at), ("y", 2)], ["q"], [3, 14, 15, 92], [(sign, deeds()) for sign in "abc"])
        for at in range(count)]


def lively_signs(chance, count):
    return [
        (chance.randrange(12), chance.randrange(3), chance.randrange(count), chance.choice("abc"),
         chance.randrange(-3, 9), 0) for place in range(chance.randrange(1, 9))]


def changes(thing):
    """The thing with one number, name, list or order in it changed, in each way that is near at hand."""
    if isinstance(thing, int):
        return [thing + 1, thing - 1]
    if isinstance(thing, str):
        return [thing + "z", "z" + thing[1:]]
    make = list if isinstance(thing, list) else tuple
    found = []
    for place, part in enumerate(thing):
        found += [make(thing[:place]) + make([other]) + make(thing[place + 1:]) for other in changes(part)]
        if isinstance(thing, list):
            found += [thing[:place] + thing[place + 1:], thing[:place] + [part] + thing[place:]]
            if thing[place + 1:] and thing[place + 1] != part:
                found.append(thing[:place] + [thing[place + 1], part] + thing[place + 2:])
    return found


def changed_records(record):
    """The record, changed as above, with something more in its lists, or with a list for a worth and so on."""
    writes = [record[5] + [("more", held)] for held in (7, [], [7])]
    for place, (name, held) in enumerate(record[5]):
        other = held + [7] if isinstance(held, list) else [held]
        writes.append(record[5][:place] + [(name, other)] + record[5][place + 1:])
    found = [record[:5] + (other, record[6]) for other in writes]
    found.append(record[:5] + (record[5], record[6] + [((9, 0, record[1], 0), 0, "more", 7, 7)]))
    return changes(record) + found


def changed_books(records):
    """The list of records with one of them changed, left out, there twice, or in another order."""
    found = changes(records)
    for place, record in enumerate(records):
        found += [records[:place] + [other] + records[place + 1:] for other in changed_records(record)]
    return found


def line_refused(read, text):
    """The line of the refusal with which reading the text answers, or None where it is read."""
    try:
        read(text)
    except NoText as refusal:
        return refusal.line
    return None


def some_change(chance, text):
    """The text with a line or a word of it left out, moved, said twice or replaced, or with a sign changed."""
    lines = text.split("\n")
    at = chance.randrange(len(lines))
    sort = chance.randrange(9)
    if sort == 0:
        lines.pop(at)
    elif sort == 1:
        lines.insert(chance.randrange(len(lines) + 1), lines[at])
    elif sort == 2:
        other = chance.randrange(len(lines))
        lines[at], lines[other] = lines[other], lines[at]
    elif sort == 3:
        lines[at] = chance.choice(["", " ", "  ", "    "]) + lines[at].lstrip(" ") + chance.choice(["", "", " "])
    elif sort == 4:
        lines[at] = lines[at][2:] if chance.random() < 0.5 else "  " + lines[at]
    elif sort == 5:
        lines = lines[:at]
    else:
        words = lines[at].split(" ")
        place = chance.randrange(len(words))
        words[place:place + 1] = chance.choice([
            [], [words[place]] * 2, [chance.choice(words)], [changed_word(chance, words[place])]])
        lines[at] = " ".join(words)
    return "\n".join(lines)


def changed_word(chance, word):
    if chance.random() < 0.4:
        return chance.choice(["0", "-1", "7", "10", "x", "y", "q", "a", "+", "$1", "@", "else", "end", "1" + "0" * 15])
    place = chance.randrange(len(word) + 1)
    return word[:place] + chance.choice(["", "0", "1", "-", "z", "A", ".", " "]) + word[place + chance.randrange(2):]


def everything():
    """Machines with nothing in them, and one with all that can be in one, deeds of each sort within others too."""
    ending = ("end",)
    doing = [
        ("put", "x", ("plus", ("box", "x"), ("times", number(2), ("long", "q")))), ("push", "q", ("got", 0)),
        ("pull", "line", "most", []),
        ("pull", "q", "x", [("put", "x", number(-1)), ("pull", "line", "least", [ending])]),
        ("draw", "x", ("less", ("now",), number(-3))),
        ("send", 5, "do", ("plus", number(1), ("got", 0)), 9, ("box", "x"), ("long", "line")),
        ("if", ("below", ("box", "x"), number(3)), [
            ("if", ("got", 1), [], [ending]), ("put", "most", number(0))], []),
        ("if", number(0), [], [send(0, "b", 1), ("if", ("now",), [ending], [ending])]), ending]
    boxes = [("least", -GREATEST), ("most", GREATEST), ("x", 0)]
    hears = [("idle", []), ("do", doing), ("b", [ending, ending])]
    return [
        ("bare", [], [], [], []), ("rich", boxes, ["line", "q"], [0, GREATEST, 7, 7], hears),
        ("last", [], ["only"], [5], []), ("dry", [], [], [], [("x", [("draw", "x", number(1))])])]


def full_machines():
    """Each bound of a model reached at once."""
    formula = number(-GREATEST)
    for turn in range(7):
        formula = ("plus", number(GREATEST), formula)
    nested = [("end",)]
    for turn in range(4):
        nested = [("if", formula, nested, [])]
    deeds = [("send", 5, "zzzzzz", formula, 9, formula, formula)] * 10 + [("put", "boxf", formula)] * 5 + nested
    hears = [(sign, deeds) for sign in ("zzzzzz", "b", "c", "d")]
    boxes = [("box" + letter, GREATEST) for letter in "abcdef"]
    return [
        ("full" + letter, boxes, ["ququa", "ququb", "ququc"], [GREATEST] * 20, hears) for letter in "abcdef"]
