"""One bit a letter: the NOTES that SIDES keep, and the PAIR of them that is right for a MACHINE (section 10)."""

from bothroads.doings import counted_least, doing_by, product
from bothroads.errors import TooMuch
from bothroads.machines import check_letters, first_words, letters_in, state_from
from bothroads.ranks import bit_of, rank_order, ranked
from bothroads.runs import letters_put

MOST_NOTES = 400
MARKS = (0, 1)


def note_behind(machine, run, side):
    """Give the NOTE of side behind run; TooMuch, then NoPlace for the first letter put that machine has not."""
    small = counted_least(machine)
    letters = letters_put(run)
    check_letters(machine, letters)
    told, now, greatest = ranked(run)
    rank = now[side]
    above = greatest[side] > rank
    order = rank_order(run, side)
    # All that a SIDE knows of its own rank are its own PUTS: those of the other SIDE have the ranks between.
    ahead = [letters[number] for number in order if above or told[number] < rank]
    own = [letters[number] for number in order if not above and told[number] == rank]
    return state_from(small, 0, ahead), doing_by(small, own), above, bit_of(rank)


def note_put(small, note, letter):
    """Give the pair of the NOTE behind note when letter is put, and the mark that goes with it."""
    state, own, above, bit = note
    done = doing_by(small, (letter,))
    if above:
        return (state, done, False, 1 - bit), 1 - bit
    return (state, product(own, done), False, bit), bit


def note_taken(small, side, note, letter, mark):
    """Give the NOTE behind note when side takes letter with mark."""
    state, own, above, bit = note
    one = doing_by(small, ())
    # A letter of a rank below that of side has the low mark, one of a rank above it the other.
    is_low = mark == (bit if side == 1 else 1 - bit)
    if above:
        return note if is_low else (state_from(small, state, (letter,)), one, True, bit)
    if is_low:
        return state_from(small, state, (letter,)), own, False, bit
    return state_from(small, own[state], (letter,)), one, True, bit


def letters_of_least(small):
    """Give the list of the letters 1, 2, .. that a least MACHINE has."""
    return list(range(1, letters_in(small) + 1))


def notes_next(small, side, note):
    """Give the list of the NOTES behind note: what is put, by letters, then what is taken, by letters, by marks."""
    letters = letters_of_least(small)
    behind_puts = [note_put(small, note, letter)[0] for letter in letters]
    return behind_puts + [note_taken(small, side, note, letter, mark) for letter in letters for mark in MARKS]


def notes_by(small, side):
    """Give the list of the NOTES for which STANDS of side stand; TooMuch if they are too many."""
    first = (0, doing_by(small, ()), False, 0)
    notes = list(first_words(first, lambda note: notes_next(small, side, note), MOST_NOTES))
    if len(notes) > MOST_NOTES:
        raise TooMuch()
    return notes


def notes_of(machine, side):
    """Give the tuple of the NOTES for which the STANDS of side's KEEPER in the BIT PAIR stand."""
    return tuple(notes_by(counted_least(machine), side))


def bit_keeper(small, side):
    """Give the KEEPER of side in the BIT PAIR of a least MACHINE."""
    notes = notes_by(small, side)
    letters = letters_of_least(small)
    stands = {note: stand for stand, note in enumerate(notes)}
    told = tuple([own[state] in small[1] for state, own, _, _ in notes])
    sent = []
    heard = []
    for note in notes:
        behind = [note_put(small, note, letter) for letter in letters]
        sent.append(tuple([(stands[further], mark) for further, mark in behind]))
        heard.append(
            tuple(
                [
                    tuple([stands[note_taken(small, side, note, letter, mark)] for mark in MARKS])
                    for letter in letters
                ]
            )
        )
    return told, tuple(sent), tuple(heard)


def bit_pair(machine):
    """Give the BIT PAIR of machine; TooMuch if it has too many DOINGS, or some SIDE too many STANDS."""
    small = counted_least(machine)
    return bit_keeper(small, 0), bit_keeper(small, 1)
