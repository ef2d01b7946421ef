"""DOINGS: what WORDS do to all STATES of the least MACHINE, and what surrounds two of them (section 5)."""

from bothroads.errors import CanNot, TooMuch, Unfit
from bothroads.machines import (
    check_letters,
    first_words,
    is_word,
    least,
    letters_in,
    parting_word_from,
    state_from,
    words_to_states,
)
from bothroads.values import are_numbers_from

MOST_DOINGS = 48


def doing(machine, word):
    """Give the DOING of word by machine, however many DOINGS there are."""
    check_letters(machine, word)
    return doing_by(least(machine), word)


def doing_by(small, word):
    """Give the DOING of word, of letters that it has, by a least MACHINE."""
    return tuple([state_from(small, state, word) for state in range(len(small[0]))])


def product(one, other):
    """Give one . other: one is done first."""
    return tuple([other[state] for state in one])


def doings_of_letters(small):
    """Give the list of the DOINGS of the letters 1, 2, .. of a least MACHINE."""
    steps = small[0]
    return [tuple([row[place] for row in steps]) for place in range(letters_in(small))]


def words_to_doings(small):
    """Give, for each DOING by a least MACHINE, the least of its shortest WORDS; TooMuch if they are too many."""
    letters = doings_of_letters(small)
    words = first_words(doing_by(small, ()), lambda own: [product(own, letter) for letter in letters], MOST_DOINGS)
    if len(words) > MOST_DOINGS:
        raise TooMuch()
    return words


def counted_least(machine):
    """Give the least MACHINE alike to machine; TooMuch if it has too many DOINGS."""
    small = least(machine)
    words_to_doings(small)
    return small


def doings(machine):
    """Give the set of all DOINGS by machine."""
    return tuple(sorted(words_to_doings(least(machine))))


def is_doing(machine, thing):
    """Tell whether thing is a DOING by machine."""
    words = words_to_doings(least(machine))
    return are_numbers_from(thing, 0) and thing in words


def fitting(words, one):
    """Give the tuple that one, maybe a list, stands for; Unfit unless it is one of the DOINGS in words."""
    if not isinstance(one, (list, tuple)):
        raise Unfit()
    own = tuple(one)
    # Python holds True equal to 1, but it is no number: so what the tuple is made of is asked ahead.
    if not are_numbers_from(own, 0) or own not in words:
        raise Unfit()
    return own


def word_for(machine, one):
    """Give, of the shortest WORDS with the DOING one, the least."""
    words = words_to_doings(least(machine))
    return words[fitting(words, one)]


def halts(one):
    """Tell whether the DOING one halts."""
    return product(one, one) == one


def halted(one):
    """Give that one of one, one . one, one . one . one, .. that halts."""
    now = tuple(one)
    while not halts(now):
        now = product(now, one)
    return now


def halting(machine):
    """Give the set of the DOINGS by machine that halt."""
    return tuple([own for own in doings(machine) if halts(own)])


def crossed_letters(machine):
    """Give the least pair of letters whose DOINGS do not commute, None if all do; TooMuch ahead of this."""
    letters = doings_of_letters(counted_least(machine))
    for low in range(len(letters)):
        for high in range(low + 1, len(letters)):
            if product(letters[low], letters[high]) != product(letters[high], letters[low]):
                return low + 1, high + 1
    return None


def commutes(machine):
    """Tell whether all DOINGS by machine commute: they do if those of letters do."""
    return crossed_letters(machine) is None


def crossed(machine):
    """Give the least pair of letters whose DOINGS do not commute; CanNot if all do."""
    pair = crossed_letters(machine)
    if pair is None:
        raise CanNot()
    return pair


def fewest_letters_first(pair):
    """Give what orders pairs of WORDS: how many letters they have in all, then the pair itself."""
    return len(pair[0]) + len(pair[1]), pair


def surroundings(machine, one, other):
    """Give, of the SURROUNDINGS of both with the fewest letters in all, the least; CanNot if one is other."""
    small = least(machine)
    words = words_to_doings(small)
    first = fitting(words, one)
    second = fitting(words, other)
    if first == second:
        raise CanNot()
    ahead = words_to_states(small)
    # With the fewest letters in all, x is a shortest WORD to some STATE, y a shortest one that parts what comes of it.
    found = [
        (ahead[state], parting_word_from(small, first[state], small, second[state]))
        for state in ahead
        if first[state] != second[state]
    ]
    return min(found, key=fewest_letters_first)


def is_surroundings(machine, one, other, thing):
    """Tell whether thing is SURROUNDINGS of both."""
    small = least(machine)
    words = words_to_doings(small)
    first = fitting(words, one)
    second = fitting(words, other)
    if not are_words(thing, 2, letters_in(small)):
        return False
    ahead, behind = thing
    state = state_from(small, 0, ahead)
    ends = small[1]
    return (state_from(small, first[state], behind) in ends) != (state_from(small, second[state], behind) in ends)


def are_words(thing, many, letters):
    """Tell whether thing is a tuple of so many WORDS of the letters 1, 2, .. up to letters."""
    if not isinstance(thing, tuple) or len(thing) != many:
        return False
    return all([is_word(own) and max(own, default=1) <= letters for own in thing])
