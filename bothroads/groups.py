"""Groups: the fewest marks of a letter on the one marked road, and the PAIR that needs no more (section 17)."""

from bothroads.against import gone_one_by_one
from bothroads.bare import gone
from bothroads.doings import are_words, counted_least, doing_by, doings_of_letters, product, words_to_doings
from bothroads.errors import CanNot, NoPlace, Unfit
from bothroads.keepers import bare_roads, check_pair_fits, letters_of, refutes
from bothroads.machines import check_letters, letters_in, parting_word_from
from bothroads.values import is_set_of_places


def is_group(small):
    """Tell whether a least MACHINE is a group's: no letter leads two STATES to one."""
    return all([len({state for state in own}) == len(own) for own in doings_of_letters(small)])


def group_of(machine):
    """Give the least MACHINE alike to machine; TooMuch if it has too many DOINGS, then Unfit if it is no group's."""
    small = counted_least(machine)
    if not is_group(small):
        raise Unfit()
    return small


def group_with(machine, letter):
    """Give the least MACHINE alike to machine, a group's; NoPlace, last, if it has not letter."""
    small = group_of(machine)
    check_letters(small, (letter,))
    return small


def opposite(one):
    """Give the opposite of a group's DOING one."""
    return tuple([one.index(state) for state in range(len(one))])


def conjugates_by(small, letter):
    """Give, for each DOING, the conjugate of letter by it: those with the shortest WORDS first, the least first."""
    own = doing_by(small, (letter,))
    return {one: product(product(one, own), opposite(one)) for one in words_to_doings(small)}


def conjugates(machine, letter):
    """Give the set of the conjugates of letter."""
    found = conjugates_by(group_with(machine, letter), letter)
    return tuple(sorted(set(list(found.values()))))


def led_by(small, letter):
    """Give the tuple with, for each STATE, the set of the STATES to which the conjugates of letter lead it."""
    found = list(conjugates_by(small, letter).values())
    return tuple([tuple(sorted({own[state] for own in found})) for state in range(len(small[0]))])


def states_led(machine, letter):
    """Give the tuple with, for each STATE, the set of the STATES to which the conjugates of letter lead it."""
    return led_by(group_with(machine, letter), letter)


def fewest_marks(machine, letter):
    """Tell to how many STATES the conjugates of letter lead STATE 0."""
    return len(states_led(machine, letter)[0])


def is_marks_table(machine, letter, thing):
    """Tell whether thing is a TABLE of letter."""
    steps = group_with(machine, letter)[0]
    many = len(steps)
    if not isinstance(thing, tuple) or len(thing) != many or not all([is_set_of_places(own, many) for own in thing]):
        return False
    if not all([row[letter - 1] in own for row, own in zip(steps, thing)]):
        return False
    for row, own in zip(steps, thing):
        for at, to in enumerate(row):
            if tuple(sorted([steps[state][at] for state in own])) != thing[to]:
                return False
    return True


def words_telling(small, letter):
    """Give, for each STATE to which conjugates of letter lead STATE 0, the least of the shortest WORDS for one."""
    words = words_to_doings(small)
    by = conjugates_by(small, letter)
    found = {}
    for one in by:
        # The shortest WORDS come first, those of one length ascending: so the first one that comes is the least.
        found.setdefault(by[one][0], words[one])
    return {state: found[state] for state in sorted(found)}


def telling_words(machine, letter):
    """Give the tuple of these WORDS, by their STATES, ascending."""
    return tuple(list(words_telling(group_with(machine, letter), letter).values()))


def state_told(small, letter, word):
    """Give the STATE to which the conjugate of letter by word leads STATE 0."""
    one = doing_by(small, word)
    return one.index(small[0][one[0]][letter - 1])


def is_telling(machine, letter, thing):
    """Tell whether thing is a tuple, not (), of WORDS the conjugates by which lead STATE 0 to STATES all unlike."""
    small = group_with(machine, letter)
    if not isinstance(thing, tuple) or len(thing) == 0 or not are_words(thing, len(thing), letters_in(small)):
        return False
    return len({state_told(small, letter, word) for word in thing}) == len(thing)


def marks_with(keeper, letter):
    """Give the set of the marks that keeper sends with letter; NoPlace if it has not letter."""
    if not 1 <= letter <= letters_of(keeper):
        raise NoPlace(letter)
    return tuple(sorted({row[letter - 1][1] for row in keeper[1]}))


def conjugates_told(small, letter):
    """Give, for each STATE to which conjugates of letter lead STATE 0, ascending, one of those that do."""
    found = {}
    for own in list(conjugates_by(small, letter).values()):
        found[own[0]] = own
    return {state: found[state] for state in sorted(found)}


def group_pair(machine, side):
    """Give a PAIR right for machine in which the road of side is bare, and each letter of the other has fewest_marks.

    Both keep a DOING: side goes on behind it, and the other one's letters are told as conjugates ahead of it.
    """
    small = group_of(machine)
    ones = list(words_to_doings(small))
    stands = {one: stand for stand, one in enumerate(ones)}
    letters = doings_of_letters(small)
    told = [conjugates_told(small, letter) for letter in range(1, len(letters) + 1)]
    answered = tuple([one[0] in small[1] for one in ones])
    plain = [[stands[product(one, own)] for own in letters] for one in ones]
    marks = max([len(own) for own in told])
    heard = tuple([tuple([taken_ahead(stands, one, list(own.values()), marks) for own in told]) for one in ones])
    hearing = (answered, tuple([tuple([(stand, 0) for stand in row]) for row in plain]), heard)
    sent = tuple([tuple([told_ahead(stands, one, own, told[at]) for at, own in enumerate(letters)]) for one in ones])
    telling = (answered, sent, tuple([tuple([(stand,) for stand in row]) for row in plain]))
    return (hearing, telling) if side == 0 else (telling, hearing)


def taken_ahead(stands, one, known, marks):
    """Give the tuple with, for each mark, the STAND behind one with that of known ahead; one's for marks not sent."""
    found = [stands[product(own, one)] for own in known]
    return tuple(found + [stands[one]] * (marks - len(found)))


def told_ahead(stands, one, own, known):
    """Give the pair of the STAND and the mark for the letter with DOING own put behind one, told by a conjugate."""
    state = product(product(one, own), opposite(one))[0]
    return stands[product(known[state], one)], list(known).index(state)


def few_against(pair, machine, side, letter):
    """Give a RUN that refutes pair, in which side's road is bare and too few marks go with letter of the other one."""
    check_pair_fits(pair, machine)
    small = group_with(machine, letter)
    if side not in bare_roads(pair):
        raise Unfit()
    words = words_telling(small, letter)
    if len(marks_with(pair[1 - side], letter)) >= len(words):
        raise CanNot()
    word, cuts = around(small, list(words.values()))
    low, high = alike_marked(pair[1 - side], word, cuts, letter)
    states = list(words)
    behind = parting_word_from(small, states[low], small, states[high])
    # Side stands alike behind both, and the other one must answer unlike, as it must where there is one WEAVING.
    found = []
    for at in (cuts[low], cuts[high]):
        found.append(gone_across(side, word, at, letter) + gone(side, behind))
        found.append(
            gone_one_by_one(side, word[:at]) + gone(1 - side, (letter,)) + gone_one_by_one(side, word[at:] + behind)
        )
    return [run for run in found if refutes(pair, machine, run)][0]


def around(small, words):
    """Give a WORD in which each of words is followed by one with the opposite DOING, and where each of them ends."""
    back = words_to_doings(small)
    whole = ()
    cuts = []
    for word in words:
        cuts.append(len(whole) + len(word))
        whole = whole + word + back[opposite(doing_by(small, word))]
    return whole, cuts


def alike_marked(keeper, word, cuts, letter):
    """Give two places of cuts such that keeper sends one mark with letter behind so many letters taken of word."""
    _, sent, heard = keeper
    stands = [0]
    for own in word:
        # The road is bare: mark 0 comes with each letter.
        stands.append(heard[stands[-1]][own - 1][0])
    marks = [sent[stands[at]][letter - 1][1] for at in cuts]
    return [(marks.index(mark), high) for high, mark in enumerate(marks) if mark in marks[:high]][0]


def gone_across(side, word, at, letter):
    """Give the EVENTS by which word is put at side, the other SIDE puts letter behind at of it, and all is taken."""
    other = 1 - side
    puts = tuple([(side, own) for own in word])
    return puts + ((other, 0),) * at + ((other, letter),) + ((other, 0),) * (len(word) - at) + ((side, 0),)
