"""WORDS and MACHINES: what a MACHINE takes, the least one alike to it, what parts two (section 4)."""

from bothroads.errors import NoPlace, Unfit
from bothroads.values import are_numbers_from, are_places, is_set_of_places


def is_word(thing):
    """Tell whether thing is a WORD, of whatever letters."""
    return are_numbers_from(thing, 1)


def is_machine(thing):
    """Tell whether thing is a MACHINE, of whatever size."""
    if not isinstance(thing, tuple) or len(thing) != 2:
        return False
    steps, ends = thing
    return are_steps(steps) and is_set_of_places(ends, len(steps))


def are_steps(thing):
    """Tell whether thing has a STATE or more, and for each of them a row of STATES, all rows as long, none empty."""
    if not isinstance(thing, tuple) or len(thing) == 0:
        return False
    if not all([are_places(row, len(thing)) for row in thing]):
        return False
    return len(thing[0]) > 0 and all([len(row) == len(thing[0]) for row in thing])


def letters_in(machine):
    """Tell how many letters machine has."""
    return len(machine[0][0])


def check_letters(machine, word):
    """Raise NoPlace for the first letter of word that machine has not."""
    many = letters_in(machine)
    for letter in word:
        if not 1 <= letter <= many:
            raise NoPlace(letter)


def check_as_many_letters(one, other):
    """Raise Unfit unless both MACHINES have as many letters."""
    if letters_in(one) != letters_in(other):
        raise Unfit()


def state_from(machine, state, word):
    """Give the STATE to which word, of letters that machine has, leads from state."""
    steps = machine[0]
    now = state
    for letter in word:
        now = steps[now][letter - 1]
    return now


def state_behind(machine, word):
    """Give the STATE to which word leads from STATE 0."""
    check_letters(machine, word)
    return state_from(machine, 0, word)


def takes(machine, word):
    """Tell whether machine takes word."""
    return state_behind(machine, word) in machine[1]


def first_words(start, behind, most):
    """Give, for each place that is come to from start, the least of the shortest WORDS that lead there.

    behind(place) gives the places to which the letters 1, 2, .. lead from place. The places stand in the
    order in which they are first come to. If they turn out to be more than most, not all of them are told,
    but more than most are.
    """
    words = {start: ()}
    level = [start]
    while level and len(words) <= most:
        further = []
        for place in level:
            for letter, to in enumerate(behind(place), start=1):
                if to not in words:
                    # Each level is gone through in the order of its WORDS: so the first WORD that comes is the least.
                    words[to] = words[place] + (letter,)
                    further.append(to)
        level = further
    return words


def words_to_states(machine):
    """Give, for each STATE that is come to, the least of the shortest WORDS that lead STATE 0 there."""
    steps = machine[0]
    return first_words(0, lambda state: steps[state], len(steps))


def numbered(marks):
    """Give each key of the dict marks the number of its mark, numbered as they are first come to."""
    numbers = {}
    for key in marks:
        if marks[key] not in numbers:
            numbers[marks[key]] = len(numbers)
    return {key: numbers[marks[key]] for key in marks}


def kinds_of_states(machine):
    """Give, for each STATE that is come to, the STATE of the least MACHINE that it becomes."""
    steps, ends = machine
    come = list(words_to_states(machine))
    kinds = numbered({state: state in ends for state in come})
    while True:
        finer = numbered({state: (kinds[state], tuple([kinds[to] for to in steps[state]])) for state in come})
        # Both are numbered in one order: so they are equal just if no kind was parted.
        if finer == kinds:
            return kinds
        kinds = finer


def least(machine):
    """Give the least MACHINE alike to machine."""
    steps, ends = machine
    kinds = kinds_of_states(machine)
    rows = []
    least_ends = []
    for state in kinds:
        if kinds[state] == len(rows):
            rows.append(tuple([kinds[to] for to in steps[state]]))
            if state in ends:
                least_ends.append(kinds[state])
    return tuple(rows), tuple(least_ends)


def are_alike(one, other):
    """Tell whether both take the same WORDS."""
    check_as_many_letters(one, other)
    return least(one) == least(other)


def parting_word(one, other):
    """Give, of the shortest WORDS that just one of both takes, the least, or None if there is none."""
    check_as_many_letters(one, other)
    return parting_word_from(one, 0, other, 0)


def parting_word_from(one, start, other, other_start):
    """Give, of the shortest WORDS that lead to an end just one of start in one and other_start in other, the least."""
    steps, ends = one
    other_steps, other_ends = other
    words = first_words(
        (start, other_start),
        lambda pair: list(zip(steps[pair[0]], other_steps[pair[1]])),
        len(steps) * len(other_steps),
    )
    for state, other_state in words:
        if (state in ends) != (other_state in other_ends):
            return words[(state, other_state)]
    return None
