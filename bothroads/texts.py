"""Texts of MACHINES, RUNS, KEEPERS and PAIRS, written and read, line by line (section 19)."""

from bothroads.errors import BadLine, Unfit
from bothroads.keepers import is_keeper, is_pair, letters_of, marks_of
from bothroads.machines import is_machine, letters_in
from bothroads.runs import is_run

ANSWERS = {"yes": True, "no": False}


def lines_of(text):
    """Give the list of the lines of text: the empty text has none."""
    return text.split("\n") if text else []


def is_figures(word):
    """Tell whether word is a number in figures, without a needless 0."""
    if word == "" or not all([sign in "0123456789" for sign in word]):
        return False
    return word == "0" or word[0] != "0"


class Reader:
    """What reads a text from top to bottom, and knows how many lines it has read."""

    def __init__(self, text):
        self.lines = lines_of(text)
        self.place = 0

    def is_done(self):
        """Tell whether no line is left."""
        return self.place == len(self.lines)

    def comes(self, word):
        """Tell whether the next line begins with word."""
        return not self.is_done() and self.lines[self.place].split(" ")[0] == word

    def behind(self, word):
        """Read the next line, and give the list of the words behind its first one; BadLine unless this is word."""
        fits = self.comes(word)
        self.place += 1
        self.check(fits)
        return self.lines[self.place - 1].split(" ")[1:]

    def counted(self, word):
        """Read the next line, and give the list of the numbers behind word."""
        told = self.behind(word)
        self.check(all([is_figures(own) for own in told]))
        return [int(own) for own in told]

    def counted_just(self, word, many):
        """Read the next line, and give the list of the numbers behind word; BadLine unless they are so many."""
        found = self.counted(word)
        self.check(len(found) == many)
        return found

    def check(self, fits):
        """Raise BadLine for the line that was read last unless it fits."""
        if not fits:
            raise BadLine(self.place)

    def end(self):
        """Raise BadLine for the next line if there is one."""
        if not self.is_done():
            raise BadLine(self.place + 1)


def line_with(word, numbers):
    """Give the line of word and of numbers behind it."""
    return " ".join([word] + [str(own) for own in numbers])


def machine_text(machine):
    """Give the text of machine."""
    steps, ends = machine
    lines = [line_with("machine", [letters_in(machine)])] + [line_with("state", row) for row in steps]
    return "\n".join(lines + [line_with("ends", ends)])


def run_text(run):
    """Give the text of run."""
    events = [line_with("put", [side, letter]) if letter > 0 else line_with("take", [side]) for side, letter in run]
    return "\n".join(["run"] + events)


def keeper_text(keeper):
    """Give the text of keeper."""
    told, sent, heard = keeper
    answers = ["yes" if own else "no" for own in told]
    lines = [line_with("keeper", [letters_of(keeper), marks_of(keeper)]), " ".join(["answers"] + answers)]
    for puts, takes in zip(sent, heard):
        lines.append(line_with("puts", [own for step in puts for own in step]))
        lines.append(line_with("takes", [own for row in takes for own in row]))
    return "\n".join(lines)


def pair_text(pair):
    """Give the text of pair."""
    return "\n".join([keeper_text(keeper) for keeper in pair])


def machine_read(text):
    """Give the MACHINE that has this text; BadLine for the first line that can not stand there, Unfit if it is none."""
    reader = Reader(text)
    many = reader.counted_just("machine", 1)[0]
    reader.check(many > 0)
    steps = [tuple(reader.counted_just("state", many))]
    while reader.comes("state"):
        steps.append(tuple(reader.counted_just("state", many)))
    ends = reader.counted("ends")
    reader.check(all([low < high for low, high in zip(ends, ends[1:])]))
    reader.end()
    machine = (tuple(steps), tuple(ends))
    if not is_machine(machine):
        raise Unfit()
    return machine


def event_read(reader):
    """Give the pair of a side and a letter, or 0, that the next line tells."""
    if not reader.comes("put"):
        return reader.counted_just("take", 1)[0], 0
    side, letter = reader.counted_just("put", 2)
    reader.check(letter > 0)
    return side, letter


def run_read(text):
    """Give the RUN that has this text; BadLine for the first line that can not stand there, Unfit if it is none."""
    reader = Reader(text)
    reader.counted_just("run", 0)
    events = []
    while not reader.is_done():
        events.append(event_read(reader))
    run = tuple(events)
    if not is_run(run):
        raise Unfit()
    return run


def keeper_lines_read(reader):
    """Give what the next lines tell that are such as those of a KEEPER."""
    letters, marks = reader.counted_just("keeper", 2)
    reader.check(letters > 0 and marks > 0)
    told = reader.behind("answers")
    reader.check(len(told) > 0 and all([own in ANSWERS for own in told]))
    sent = []
    heard = []
    for _ in told:
        puts = reader.counted_just("puts", 2 * letters)
        takes = reader.counted_just("takes", letters * marks)
        sent.append(tuple([(puts[2 * at], puts[2 * at + 1]) for at in range(letters)]))
        heard.append(tuple([tuple(takes[at * marks:at * marks + marks]) for at in range(letters)]))
    return tuple([ANSWERS[own] for own in told]), tuple(sent), tuple(heard)


def keeper_read(text):
    """Give the KEEPER that has this text; BadLine for the first line that can not stand there, Unfit if it is none."""
    reader = Reader(text)
    keeper = keeper_lines_read(reader)
    reader.end()
    if not is_keeper(keeper):
        raise Unfit()
    return keeper


def pair_read(text):
    """Give the PAIR that has this text; BadLine for the first line that can not stand there, Unfit if it is none."""
    reader = Reader(text)
    first = keeper_lines_read(reader)
    second = keeper_lines_read(reader)
    reader.end()
    if not is_pair((first, second)):
        raise Unfit()
    return first, second
