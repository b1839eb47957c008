"""The desk: a named hall that is told of, and asked about, line by line."""

from leavehall.errors import NoHall, NoLine
from leavehall.named import NamedHall

MOST_FIGURES = 60

# The words that a line has behind its first one.
FORMS = {
    "hall": ("name", "name"),
    "lay": ("name", "name", "name", "number", "number"),
    "shut": ("name",),
    "widen": ("name", "number"),
    "narrow": ("name", "number"),
    "out": ("turns",),
    "walks": ("turns",),
    "moments": ("turns",),
    "turns": ("people",),
    "worth": ("name", "turns"),
    "rooms": (),
    "passages": (),
}
LEAST = {"turns": 0, "people": 1}


class Desk:
    def __init__(self):
        self.hall = None

    def say(self, line):
        # All of the line is read before the hall is looked for: NoLine comes ahead of all else.
        words = line.split(" ")
        values = values_of(words)
        if words[0] == "hall":
            self.hall = NamedHall(values[0], values[1])
            return "ok"
        if self.hall is None:
            raise NoHall(None)
        return answer_to(self.hall, words[0], values)


def values_of(words):
    # Two blanks one behind the other, or one ahead or behind, leave a word without signs.
    if "" in words or words[0] not in FORMS:
        raise NoLine("no line begins so, or there is a blank too much")
    form = FORMS[words[0]]
    if len(words) - 1 != len(form):
        raise NoLine("too few or too many words")
    return [value_of(kind, word) for kind, word in zip(form, words[1:])]


def value_of(kind, word):
    if kind == "name":
        return word
    if not is_number(word):
        raise NoLine(f"{word!r} is no number")
    number = int(word)
    if kind in LEAST and number < LEAST[kind]:
        raise NoLine(f"{number} is too few")
    return number


def is_number(word):
    figures = word[1:] if word.startswith("-") else word
    if not 1 <= len(figures) <= MOST_FIGURES:
        return False
    if not all(["0" <= sign <= "9" for sign in figures]):
        return False
    return word == "0" or figures[0] != "0"


def answer_to(hall, word, values):
    if word == "out":
        return str(hall.out(values[0])[0])
    if word == "walks":
        return told_walks(hall.out(values[0])[1])
    if word == "moments":
        return "; ".join([f"{room}: {moment}" for room, moment in hall.out(values[0])[2]])
    if word == "turns":
        fewest = hall.turns_for(values[0])
        return "never" if fewest is None else str(fewest[0])
    if word == "worth":
        return str(hall.worth(values[0], values[1]))
    if word == "rooms":
        return " ".join(hall.rooms())
    if word == "passages":
        return told_passages(hall.passages())
    change(hall, word, values)
    return "ok"


def change(hall, word, values):
    if word == "lay":
        hall.lay(values[0], values[1], values[2], values[3], values[4])
    elif word == "shut":
        hall.shut(values[0])
    elif word == "widen":
        hall.widen(values[0], values[1])
    elif word == "narrow":
        hall.narrow(values[0], values[1])


def told_walks(walks):
    told = []
    for names, number in walks:
        together = " ".join(names)
        told.append(f"{number} by {together}")
    return "; ".join(sorted(told)) or "none"


def told_passages(passages):
    told = [f"{name} {a} {b} {width} {length}" for name, a, b, width, length in passages]
    return "; ".join(told) or "none"
