"""A desk that holds a PAIR, a MACHINE and a RUN, and works requests from top to bottom (section 20)."""

from bothroads.errors import BadLine, CanNot, Unfit
from bothroads.keepers import answers, check_pair_fits, has_letters, refutes, stands_behind
from bothroads.runs import can_take, is_at_rest, letters_put, roads, settled
from bothroads.texts import is_figures, lines_of, machine_read, pair_read, run_read, run_text
from bothroads.weavings import order_of, states_come

LONE = ((True,), (((0, 0),),), (((0,),),))
SIDES = ("0", "1")
MOST_FIGURES = 9
WITH_TEXT = ("pair", "machine", "run")
ALONE = ("settle", "undo", "answers", "stands", "roads", "led", "held", "past")


def parted(text):
    """Give the list of what is a request of text, or should be one: the list of its lines.

    Those behind its first one stand without the blank that they begin with.
    """
    found = []
    for line in lines_of(text):
        if found and line.startswith(" "):
            found[-1].append(line[1:])
        else:
            found.append([line])
    return found


def is_asked(lines):
    """Tell whether lines, as parted gives them, are a request."""
    first = lines[0]
    if first in WITH_TEXT:
        return len(lines) > 1
    return len(lines) == 1 and (first in ALONE or is_with_side(first.split(" ")))


def is_with_side(words):
    """Tell whether words are those of a request at a side."""
    if words[0] == "put":
        return len(words) == 3 and words[1] in SIDES and is_letter(words[2])
    return words[0] in ("take", "order") and len(words) == 2 and words[1] in SIDES


def is_letter(word):
    """Tell whether word is a letter in figures, not too many of them."""
    return is_figures(word) and word != "0" and len(word) <= MOST_FIGURES


def is_request(thing):
    """Tell whether thing is a string that is one request, whatever its text."""
    if not isinstance(thing, str):
        return False
    found = parted(thing)
    return len(found) == 1 and is_asked(found[0])


def check_requests(found):
    """Raise BadLine for the first line of a text, parted as found, at which no request begins though one should."""
    ahead = 0
    for lines in found:
        if not is_asked(lines):
            raise BadLine(ahead + 1)
        ahead += len(lines)


def listed(numbers):
    """Show numbers, and nothing as a dash."""
    return " ".join([str(own) for own in numbers]) if numbers else "-"


def yes_or_no(told):
    """Show True and False."""
    return "yes" if told else "no"


def both(shown):
    """Show what is of two SIDES."""
    return ", ".join(shown)


class Desk:
    """The PAIR, the MACHINE and the RUN that are held, and what was held ahead of each deed not taken back."""

    def __init__(self):
        self.pair = (LONE, LONE)
        self.machine = (((0,),), (0,))
        self.run = ()
        self.deeds = []

    def reply(self, lines):
        """Work a request, and give its reply; if it is refused, nothing has changed."""
        try:
            return self.worked(lines)
        except BadLine:
            return "refused BadLine"
        except CanNot:
            return "refused CanNot"
        except Unfit:
            return "refused Unfit"

    def worked(self, lines):
        """Work a request, and give its reply."""
        words = lines[0].split(" ")
        if words[0] == "undo":
            return self.taken_back()
        if words[0] in WITH_TEXT:
            self.do(words[0], self.with_text(words[0], "\n".join(lines[1:])))
            return "done"
        if words[0] in ("put", "take", "settle"):
            self.do(words[0], (self.pair, self.machine, self.run_on(words)))
            return "done"
        return self.answered(words)

    def do(self, word, held):
        """Do the deed that begins with word: from now on held is held."""
        self.deeds.append((word, (self.pair, self.machine, self.run)))
        self.pair, self.machine, self.run = held

    def taken_back(self):
        """Take the last deed back, and give its word; CanNot if there is none."""
        if not self.deeds:
            raise CanNot()
        word, held = self.deeds.pop()
        self.pair, self.machine, self.run = held
        return word

    def with_text(self, word, text):
        """Give what is held with what text tells."""
        if word == "pair":
            return pair_read(text), self.machine, ()
        if word == "machine":
            return self.pair, machine_read(text), self.run
        run = run_read(text)
        self.check_letters_of(run)
        return self.pair, self.machine, run

    def check_letters_of(self, run):
        """Raise Unfit if run has a letter that the PAIR has not."""
        if not has_letters(self.pair, letters_put(run)):
            raise Unfit()

    def run_on(self, words):
        """Give the RUN with the EVENTS behind it that words tell."""
        if words[0] == "settle":
            return settled(self.run)
        side = int(words[1])
        if words[0] == "put":
            event = (side, int(words[2]))
            self.check_letters_of((event,))
            return self.run + (event,)
        if not can_take(self.run, side):
            raise CanNot()
        return self.run + ((side, 0),)

    def answered(self, words):
        """Give the answer to what is asked."""
        if words[0] == "answers":
            return both([yes_or_no(own) for own in answers(self.pair, self.run)])
        if words[0] == "stands":
            return both([str(own) for own in stands_behind(self.pair, self.run)])
        if words[0] == "roads":
            return both([listed(own) for own in roads(self.run)])
        if words[0] == "order":
            return listed(order_of(self.run, int(words[1])))
        if words[0] == "past":
            return run_text(self.run)
        check_pair_fits(self.pair, self.machine)
        if words[0] == "led":
            return listed(states_come(self.machine, self.run))
        if not is_at_rest(self.run):
            raise CanNot()
        return yes_or_no(not refutes(self.pair, self.machine, self.run))


def desk(text):
    """Give the list of the replies to the requests of text; BadLine, ahead of all, for the first line that is none."""
    found = parted(text)
    check_requests(found)
    held = Desk()
    return [held.reply(lines) for lines in found]
