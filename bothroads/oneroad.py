"""One bare road: the two ends of a lawful MACHINE, the hearer's and the teller's, and the PAIR of them (section 15).

Within a Grove the hearer is a pair of a DOING and the number of a TREE, the teller one of a DOING and a TURN.
"""

from bothroads.doings import doing_by, fitting, product
from bothroads.errors import CanNot, TooMuch
from bothroads.machines import check_letters, first_words, letters_in
from bothroads.runs import learnings, letters_put
from bothroads.stages import led, stages_of, turn_back, turns_joined
from bothroads.trees import Grove

MOST_ENDS = 400
MOST_PAIRS = 4000


def grove_of(machine):
    """Give a Grove for machine; TooMuch if it has too many DOINGS, then Unfit if it is not lawful."""
    return Grove(stages_of(machine))


def teller_in(grove, teller):
    """Give the pair that teller, maybe a list, stands for; Unfit if its DOING is none."""
    one, turn = teller
    return fitting(grove.stages.words, one), tuple(turn)


def hearer_in(grove, hearer):
    """Give the pair of the DOING of hearer and the number of its TREE; Unfit if its DOING is none."""
    one, tree = hearer
    own = fitting(grove.stages.words, one)
    return own, grove.planted(grove.stages.room_at[own], tree)


def hearer_shown(grove, hearer):
    """Give the HEARER that the pair of a DOING and the number of a TREE stands for."""
    one, tree = hearer
    return one, grove.shown(tree)


def first_teller(grove):
    """Give the first TELLER."""
    one = doing_by(grove.stages.small, ())
    return one, grove.stages.still(grove.stages.room_at[one])


def first_hearer(grove):
    """Give the first HEARER, its TREE by number."""
    one = doing_by(grove.stages.small, ())
    return one, grove.seed(grove.stages.room_at[one])


def first_ends(machine):
    """Give the pair of the first HEARER and the first TELLER."""
    grove = grove_of(machine)
    return hearer_shown(grove, first_hearer(grove)), first_teller(grove)


def teller_behind(grove, teller, letter, is_taken):
    """Give the TELLER behind a letter that is put or taken."""
    one, turn = teller
    stages = grove.stages
    room = stages.room_at[one]
    now = product(one, stages.letters[letter - 1])
    if letter not in stages.turns[room]:
        return now, stages.still(stages.room_at[now])
    return now, turns_joined(turn, stages.turns[room][letter]) if is_taken else turn


def hearer_behind_put(grove, hearer, letter):
    """Give the hearer behind a letter that it puts."""
    one, tree = hearer
    return one, grove.appended(tree, letter)


def hearer_behind_take(grove, hearer, told, letter):
    """Give the hearer behind a letter that it takes with the TELLER told; None if this can not be."""
    one, tree = hearer
    goal, turn = told
    left = grove.left_behind(one, tree, goal, turn)
    if left is None:
        return None
    stages = grove.stages
    room = stages.room_at[goal]
    now = product(goal, stages.letters[letter - 1])
    if letter in stages.turns[room]:
        return led(stages.rooms[room], now, turn_back(turn)), grove.turned_ahead(left, turn)
    return now, grove.cut(left, stages.room_at[now])


def teller_put(machine, teller, letter):
    """Give the TELLER behind letter put; NoPlace if machine has not letter."""
    grove = grove_of(machine)
    now = teller_in(grove, teller)
    check_letters(machine, (letter,))
    return teller_behind(grove, now, letter, False)


def teller_take(machine, teller, letter):
    """Give the TELLER behind letter taken; NoPlace if machine has not letter."""
    grove = grove_of(machine)
    now = teller_in(grove, teller)
    check_letters(machine, (letter,))
    return teller_behind(grove, now, letter, True)


def hearer_put(machine, hearer, letter):
    """Give the HEARER behind letter put; NoPlace if machine has not letter."""
    grove = grove_of(machine)
    now = hearer_in(grove, hearer)
    check_letters(machine, (letter,))
    return hearer_shown(grove, hearer_behind_put(grove, now, letter))


def hearer_take(machine, hearer, told, letter):
    """Give the HEARER behind letter taken with told; NoPlace if machine has not letter, CanNot if it can not be."""
    grove = grove_of(machine)
    now = hearer_in(grove, hearer)
    teller = teller_in(grove, told)
    check_letters(machine, (letter,))
    behind = hearer_behind_take(grove, now, teller, letter)
    if behind is None:
        raise CanNot()
    return hearer_shown(grove, behind)


def hearer_doing(machine, hearer):
    """Give the DOING of hearer: what its own one comes to by the WORD of its TREE."""
    grove = grove_of(machine)
    one, tree = hearer_in(grove, hearer)
    return grove.whole(one, tree)


def ends_behind(machine, run, side):
    """Give the pair of the HEARER, which is at side, and the TELLER behind run."""
    grove = grove_of(machine)
    letters = letters_put(run)
    check_letters(machine, letters)
    hearer, teller = first_hearer(grove), first_teller(grove)
    # What goes with each PUT: with one of the teller the TELLER ahead of it.
    told = []
    for at, event, number in learnings(run):
        letter = letters[number]
        if event > 0:
            told.append(teller)
        if at != side:
            teller = teller_behind(grove, teller, letter, event == 0)
        elif event > 0:
            hearer = hearer_behind_put(grove, hearer, letter)
        else:
            hearer = hearer_behind_take(grove, hearer, told[number], letter)
    return hearer_shown(grove, hearer), teller


def letters_for(grove):
    """Give the list of the letters 1, 2, .. of the MACHINE."""
    return list(range(1, letters_in(grove.stages.small) + 1))


def tellers_next(grove, teller):
    """Give the list of the TELLERS behind teller, by letters put, then by letters taken."""
    letters = letters_for(grove)
    return [teller_behind(grove, teller, letter, is_taken) for is_taken in (False, True) for letter in letters]


def hearers_next(grove, tellers, hearer):
    """Give the list of the hearers behind hearer, by letters put, and by letters taken with whichever of tellers."""
    letters = letters_for(grove)
    takes = [hearer_behind_take(grove, hearer, told, letter) for told in tellers for letter in letters]
    return [hearer_behind_put(grove, hearer, letter) for letter in letters] + [own for own in takes if own is not None]


def ends_in(grove):
    """Give the lists of all hearers and TELLERS that come, the first one, then the others ascending.

    TooMuch if either are too many, or pairs of them.
    """
    teller = first_teller(grove)
    found = list(first_words(teller, lambda own: tellers_next(grove, own), MOST_ENDS))
    if len(found) > MOST_ENDS:
        raise TooMuch()
    tellers = [teller] + sorted([own for own in found if own != teller])
    hearer = first_hearer(grove)
    most = min(MOST_ENDS, MOST_PAIRS // len(tellers))
    come = list(first_words(hearer, lambda own: hearers_next(grove, tellers, own), most))
    if len(come) > most:
        raise TooMuch()
    # By what is shown, for numbers of TREES stand in another order.
    others = sorted([(hearer_shown(grove, own), own) for own in come if own != hearer])
    return [hearer] + [own for _, own in others], tellers


def ends_come(machine):
    """Give the pair of the tuples of all HEARERS and all TELLERS that come; TooMuch if they are too many."""
    grove = grove_of(machine)
    hearers, tellers = ends_in(grove)
    return tuple([hearer_shown(grove, hearer) for hearer in hearers]), tuple(tellers)


def answers_of(grove, found):
    """Give the tuple of whether each of the DOINGS found leads STATE 0 to an end."""
    return tuple([one[0] in grove.stages.small[1] for one in found])


def hearer_keeper(grove, hearers, tellers):
    """Give the KEEPER of the hearer: it tells nothing, and takes as marks the numbers of tellers."""
    letters = letters_for(grove)
    stands = {hearer: stand for stand, hearer in enumerate(hearers)}
    sent = []
    heard = []
    for hearer in hearers:
        behind = [hearer_behind_put(grove, hearer, letter) for letter in letters]
        sent.append(tuple([(stands[own], 0) for own in behind]))
        takes = [[hearer_behind_take(grove, hearer, told, letter) for told in tellers] for letter in letters]
        # Told what can not be, the hearer stays as it is.
        heard.append(tuple([tuple([stands[hearer if own is None else own] for own in row]) for row in takes]))
    return answers_of(grove, [grove.whole(one, tree) for one, tree in hearers]), tuple(sent), tuple(heard)


def teller_keeper(grove, tellers):
    """Give the KEEPER of the teller: it tells its own number ahead of each letter, and takes one mark alone."""
    letters = letters_for(grove)
    stands = {teller: stand for stand, teller in enumerate(tellers)}
    sent = []
    heard = []
    for mark, teller in enumerate(tellers):
        sent.append(tuple([(stands[teller_behind(grove, teller, letter, False)], mark) for letter in letters]))
        heard.append(tuple([(stands[teller_behind(grove, teller, letter, True)],) for letter in letters]))
    return answers_of(grove, [one for one, _ in tellers]), tuple(sent), tuple(heard)


def one_pair(machine, side):
    """Give the PAIR of all HEARERS, at side, and all TELLERS; TooMuch if they are too many."""
    grove = grove_of(machine)
    hearers, tellers = ends_in(grove)
    hearing = hearer_keeper(grove, hearers, tellers)
    telling = teller_keeper(grove, tellers)
    return (hearing, telling) if side == 0 else (telling, hearing)
