"""Bare roads: whether no marks are enough, and what shows that they are not (section 11)."""

from bothroads.doings import are_words, commutes, counted_least, crossed, doing, surroundings
from bothroads.errors import CanNot, Unfit
from bothroads.keepers import bare_roads, check_pair_fits, refutes
from bothroads.machines import first_words, least, letters_in, takes
from bothroads.values import tupled


def crossing_of(machine):
    """Give the CROSSING of the least letters that do not commute, in their SURROUNDINGS; CanNot if all commute."""
    one, other = crossed(machine)
    ahead, behind = surroundings(machine, doing(machine, (one, other)), doing(machine, (other, one)))
    return ahead, one, other, behind


def is_crossing(machine, thing):
    """Tell whether thing is a CROSSING of machine."""
    if not isinstance(thing, tuple) or len(thing) != 4:
        return False
    ahead, one, other, behind = thing
    if not are_words((ahead, (one, other), behind), 3, letters_in(machine)):
        return False
    return takes(machine, ahead + (one, other) + behind) != takes(machine, ahead + (other, one) + behind)


def gone(side, word):
    """Give the EVENTS by which all letters of word are put at side, then all taken by the other SIDE."""
    return tuple([(side, letter) for letter in word]) + ((1 - side, 0),) * len(word)


def crossing_runs(machine, crossing):
    """Give the three RUNS of crossing: its letters cross, or one, or other is known ahead; Unfit if it is none."""
    told = tupled(crossing)
    if not is_crossing(machine, told):
        raise Unfit()
    ahead, one, other, behind = told
    between = (
        ((0, one), (1, other), (0, 0), (1, 0)),
        gone(0, (one,)) + gone(1, (other,)),
        gone(1, (other,)) + gone(0, (one,)),
    )
    return tuple([gone(0, ahead) + events + gone(0, behind) for events in between])


def bare_pair(machine):
    """Give the PAIR of two KEEPERS that go on as the least MACHINE does and tell nothing; CanNot unless all commute."""
    small = counted_least(machine)
    if not commutes(machine):
        raise CanNot()
    steps, ends = small
    told = tuple([state in ends for state in range(len(steps))])
    sent = tuple([tuple([(state, 0) for state in row]) for row in steps])
    heard = tuple([tuple([(state,) for state in row]) for row in steps])
    return (told, sent, heard), (told, sent, heard)


def check_bare(pair, machine):
    """Raise Unfit unless they go together, TooMuch if there are too many DOINGS, Unfit unless both roads are bare."""
    check_pair_fits(pair, machine)
    counted_least(machine)
    if bare_roads(pair) != (0, 1):
        raise Unfit()


def bare_steps(keeper, small, place):
    """Give the list of the pairs of a STAND and a STATE behind such a pair by letters put, then by letters taken."""
    _, sent, heard = keeper
    stand, state = place
    stands = [own for own, _ in sent[stand]] + [marked[0] for marked in heard[stand]]
    states = small[0][state]
    return list(zip(stands, states + states))


def misled(pair, side, small):
    """Give a shortest RUN of letters each taken at once behind which side answers wrongly, None if there is none.

    With both roads bare a SIDE stands where it does whatever the other one does: so one is gone along alone.
    """
    keeper = pair[side]
    many = letters_in(small)
    places = len(keeper[0]) * len(small[0])
    words = first_words((0, 0), lambda place: bare_steps(keeper, small, place), places)
    for stand, state in words:
        if keeper[0][stand] != (state in small[1]):
            puts = [(side, own) if own <= many else (1 - side, own - many) for own in words[(stand, state)]]
            return tuple([event for at, letter in puts for event in gone(at, (letter,))])
    return None


def bare_refuting(pair, machine):
    """Give the list of RUNS that refute pair, both roads of which are bare, for machine: none just if it is right."""
    if not commutes(machine):
        return [run for run in crossing_runs(machine, crossing_of(machine)) if refutes(pair, machine, run)]
    small = least(machine)
    found = [misled(pair, side, small) for side in (0, 1)]
    return [run for run in found if run is not None]


def is_bare_right(pair, machine):
    """Tell whether pair, with both roads bare, is right for machine."""
    check_bare(pair, machine)
    return len(bare_refuting(pair, machine)) == 0


def bare_against(pair, machine):
    """Give a RUN that refutes pair, with both roads bare, for machine; CanNot if it is right."""
    check_bare(pair, machine)
    found = bare_refuting(pair, machine)
    if not found:
        raise CanNot()
    return found[0]
