"""A desk: systems kept by names, laid and asked by lines of text."""

from helmsum.alike import apart
from helmsum.courses import looks_along
from helmsum.efforts import least
from helmsum.errors import NoName, NoText, Taken, TooMany
from helmsum.joins import added, beside, in_row, ringed
from helmsum.parts import four_parts, smallest
from helmsum.ratios import NOUGHT, under
from helmsum.reach import come
from helmsum.shut import shut_off
from helmsum.steering import steered
from helmsum.telling import told_by
from helmsum.texts import read_number, read_size, read_system, show_number, show_row, show_system, words_in
from helmsum.wishes import closed

MOST_SYSTEMS = 24
MOST_STEPS = 12
MOST_LETTERS = 8
LETTERS = "abcdefghijklmnopqrstuvwxyz"

# What stands behind the first word of each line. NUMBERS and SYSTEM are all the words that are left, the others one.
SHAPES = {
    "system": ("NAME", "SYSTEM"),
    "turned": ("NAME", "D"),
    "row": ("NAME", "D", "E"),
    "beside": ("NAME", "D", "E"),
    "added": ("NAME", "D", "E"),
    "ring": ("NAME", "D", "E"),
    "smallest": ("NAME", "D"),
    "steered": ("NAME", "D", "NUMBERS"),
    "drop": ("D",),
    "names": (),
    "show": ("D",),
    "sizes": ("D",),
    "run": ("D", "NUMBERS"),
    "come": ("D", "STEPS", "NUMBERS"),
    "fewest": ("D", "NUMBERS"),
    "least": ("D", "STEPS", "NUMBERS"),
    "apart": ("D", "E"),
    "told": ("D", "STEPS", "NUMBERS"),
}


def read_name(word):
    """The word, where it is one to eight small letters."""
    if word == "" or len(word) > MOST_LETTERS or not all([sign in LETTERS for sign in word]):
        raise NoText()
    return word


def read_part(kind, words):
    """What these words, all that are there for it, say as a part of this kind."""
    if kind == "NUMBERS":
        return [read_number(word) for word in words]
    if kind == "SYSTEM":
        return read_system(" ".join(words))
    if len(words) == 0:
        raise NoText()
    if kind == "STEPS":
        return read_size(words[0], MOST_STEPS)
    return read_name(words[0])


def read_line(line):
    """The parts of a line by their kinds, its first word as "WORD"; NoText where it, whatever it is, is no line."""
    words = words_in(line)
    if words[0] not in SHAPES:
        raise NoText()
    parts = {"WORD": words[0]}
    left = words[1:]
    for kind in SHAPES[words[0]]:
        many = len(left) if kind in ("NUMBERS", "SYSTEM") else 1
        parts[kind] = read_part(kind, left[:many])
        left = left[many:]
    if len(left) > 0:
        raise NoText()
    return parts


def run_lengths(system, many):
    """The lengths of a start and of as many rows of puts as so many numbers make, at most 12."""
    turns = 0
    if system.ins > 0:
        turns = min(MOST_STEPS, (many - system.states) // system.ins)
    return [system.states] + [system.ins for turn in range(turns)]


def lengths_for(word, system, many):
    """The lengths of the rows that a line with so many numbers is to have."""
    if word == "run":
        return run_lengths(system, many)
    if word == "come":
        return [system.states, system.states]
    if word == "least":
        return [system.ins, system.states, system.states]
    return [system.states]


def rows_in(parts, system):
    """The numbers of a line as the rows that they are; NoText where there are more or fewer of them."""
    numbers = parts["NUMBERS"]
    lengths = lengths_for(parts["WORD"], system, len(numbers))
    if sum(lengths) != len(numbers):
        raise NoText()
    rows = []
    for length in lengths:
        rows.append(numbers[:length])
        numbers = numbers[length:]
    return rows


def joined(word, one, other):
    """Two systems put together as the word says."""
    if word == "row":
        return in_row(one, other)
    if word == "beside":
        return beside(one, other)
    if word == "added":
        return added(one, other)
    return ringed(one, other)


def made(parts, systems, rows):
    """The System that a line lays."""
    word = parts["WORD"]
    if word == "system":
        return parts["SYSTEM"]
    if word == "turned":
        return systems[0].turned()
    if word == "smallest":
        return smallest(systems[0])
    if word == "steered":
        return closed(systems[0], steered(systems[0], rows[0]))
    return joined(word, systems[0], systems[1])


def shown_rows(first, rows):
    """The first line and then one for each of the rows."""
    return [first] + [show_row(row) for row in rows]


def come_lines(system, steps, rows):
    """The puts from start to goal, or the price."""
    answer = come(system, rows[0], rows[1], steps)
    if answer[0] == "never":
        return shown_rows("never", [answer[1]])
    return shown_rows("puts", answer[1])


def fewest_lines(system, goal):
    """The fewest steps from rest to the goal and the puts, or never."""
    answer = shut_off(system, goal)
    if answer[0] == "never":
        return ["never"]
    return shown_rows("in " + str(answer[1]), answer[2])


def least_lines(system, steps, rows):
    """The least effort from start to goal and the puts, or never; NoText where a weight isn't above 0."""
    if not all([under(NOUGHT, weight) for weight in rows[0]]):
        raise NoText()
    answer = least(system, rows[0], rows[1], rows[2], steps)
    if answer[0] == "never":
        return ["never"]
    return shown_rows("effort " + show_number(answer[1]), answer[2])


def apart_lines(one, other):
    """The first pulse that is unlike, or alike."""
    answer = apart(one, other)
    if answer is None:
        return ["alike"]
    return [" ".join([str(place) for place in answer])]


def told_lines(system, steps, asked):
    """The weights of looks that tell what is asked, or a state that looks like rest."""
    answer = told_by(system, asked, steps)
    if answer[0] == "alike":
        return shown_rows("alike", [answer[1]])
    return shown_rows("from", answer[1])


def answered(parts, systems, rows):
    """The lines that a line which asks of systems is answered with."""
    word = parts["WORD"]
    system = systems[0]
    if word == "show":
        return [show_system(system)]
    if word == "sizes":
        return [" ".join([str(len(part)) for part in four_parts(system)])]
    if word == "run":
        return [show_row(looks) for looks in looks_along(system, rows[0], rows[1:])]
    if word == "come":
        return come_lines(system, parts["STEPS"], rows)
    if word == "fewest":
        return fewest_lines(system, rows[0])
    if word == "least":
        return least_lines(system, parts["STEPS"], rows)
    if word == "told":
        return told_lines(system, parts["STEPS"], rows[0])
    return apart_lines(system, systems[1])


class Desk:
    """Systems by their names, in the order in which they were laid."""

    def __init__(self):
        self.laid = {}

    def standing(self, name):
        """The System that the name stands for; else NoName."""
        if name not in self.laid:
            raise NoName(name)
        return self.laid[name]

    def refuse_laid(self, name):
        """Refuses a name that stands already, then a system more than a desk keeps."""
        if name in self.laid:
            raise Taken(name)
        if len(self.laid) == MOST_SYSTEMS:
            raise TooMany(MOST_SYSTEMS)

    def say(self, line):
        """The lines with which the line is answered; what it lays or drops is done, or, refused, nothing is."""
        parts = read_line(line)
        systems = [self.standing(parts[kind]) for kind in ("D", "E") if kind in parts]
        rows = rows_in(parts, systems[0]) if "NUMBERS" in parts else []
        if "NAME" in parts:
            self.refuse_laid(parts["NAME"])
            self.laid[parts["NAME"]] = made(parts, systems, rows)
            return []
        if parts["WORD"] == "drop":
            self.laid.pop(parts["D"])
            return []
        if parts["WORD"] == "names":
            return list(self.laid)
        return answered(parts, systems, rows)
