"""KEEPERS and PAIRS of them: where they stand along RUNS, what they answer and tell, what refutes them (section 8)."""

from bothroads.errors import Unfit
from bothroads.machines import letters_in
from bothroads.runs import is_at_rest, is_run, learnings, letters_put
from bothroads.values import are_numbers_from, are_places
from bothroads.weavings import answers_come


def is_keeper(thing):
    """Tell whether thing is a KEEPER, of whatever size."""
    if not isinstance(thing, tuple) or len(thing) != 3:
        return False
    told, sent, heard = thing
    if not isinstance(told, tuple) or len(told) == 0 or not all([isinstance(own, bool) for own in told]):
        return False
    return are_puts(sent, len(told)) and are_takes(heard, len(told)) and len(sent[0]) == len(heard[0])


def are_rows(thing, many):
    """Tell whether thing is a tuple of so many tuples, all as long, none empty."""
    if not isinstance(thing, tuple) or len(thing) != many:
        return False
    return all([isinstance(row, tuple) and len(row) > 0 for row in thing]) and len({len(row) for row in thing}) == 1


def are_puts(thing, stands):
    """Tell whether thing has for each of so many STANDS, for each letter, a STAND and a mark, all rows as long."""
    return are_rows(thing, stands) and all([is_step(step, stands) for row in thing for step in row])


def is_step(thing, stands):
    """Tell whether thing is a pair of one of so many STANDS and a mark."""
    return are_numbers_from(thing, 0) and len(thing) == 2 and thing[0] < stands


def are_takes(thing, stands):
    """Tell whether thing has for each of so many STANDS, for each letter, for each mark a STAND, all rows as long."""
    if not are_rows(thing, stands):
        return False
    told = tuple([own for row in thing for own in row])
    return are_rows(told, len(told)) and all([are_places(own, stands) for own in told])


def letters_of(keeper):
    """Tell how many letters keeper has."""
    return len(keeper[1][0])


def marks_of(keeper):
    """Tell how many marks keeper takes."""
    return len(keeper[2][0][0])


def is_pair(thing):
    """Tell whether thing is a PAIR, of KEEPERS of whatever size."""
    if not isinstance(thing, tuple) or len(thing) != 2 or not all([is_keeper(own) for own in thing]):
        return False
    first, second = thing
    if letters_of(first) != letters_of(second):
        return False
    return greatest_mark(first) < marks_of(second) and greatest_mark(second) < marks_of(first)


def greatest_mark(keeper):
    """Give the greatest mark that keeper sends, at whatever STAND."""
    return max([mark for row in keeper[1] for _, mark in row])


def gone_along(pair, run):
    """Give the lists of the pairs of STANDS, ahead of run and behind each EVENT, and of the marks sent.

    Unfit if run has a letter that pair has not.
    """
    letters = letters_put(run)
    if not has_letters(pair, letters):
        raise Unfit()
    stands = [0, 0]
    along = [(0, 0)]
    marks = []
    for side, letter, number in learnings(run):
        _, sent, heard = pair[side]
        if letter > 0:
            stands[side], mark = sent[stands[side]][letter - 1]
            marks.append(mark)
        else:
            stands[side] = heard[stands[side]][letters[number] - 1][marks[number]]
        along.append((stands[0], stands[1]))
    return along, marks


def has_letters(pair, letters):
    """Tell whether pair has all of letters."""
    return max(letters, default=1) <= letters_of(pair[0])


def stands_along(pair, run):
    """Give the list of the pairs of STANDS of both SIDES ahead of the first EVENT of run and behind each."""
    return gone_along(pair, run)[0]


def stands_behind(pair, run):
    """Give the pair of the STANDS of both SIDES behind run."""
    return gone_along(pair, run)[0][-1]


def answers(pair, run):
    """Give the pair of the answers of both SIDES behind run."""
    first, second = stands_behind(pair, run)
    return pair[0][0][first], pair[1][0][second]


def marks_sent(pair, run):
    """Give the tuple with, for each PUT of run, the mark that goes with its letter."""
    return tuple(gone_along(pair, run)[1])


def bare_roads(pair):
    """Give the set of the SIDES the road of which is bare: the other SIDE's KEEPER takes one mark alone."""
    return tuple([side for side in (0, 1) if marks_of(pair[1 - side]) == 1])


def check_pair_fits(pair, machine):
    """Raise Unfit unless pair and machine have as many letters."""
    if letters_of(pair[0]) != letters_in(machine):
        raise Unfit()


def refutes(pair, machine, thing):
    """Tell whether thing is a RUN that refutes pair for machine; Unfit, whatever it is, if they do not go together."""
    check_pair_fits(pair, machine)
    if not is_run(thing) or not has_letters(pair, letters_put(thing)) or not is_at_rest(thing):
        return False
    first, second = answers(pair, thing)
    return first != second or first not in answers_come(machine, thing)
