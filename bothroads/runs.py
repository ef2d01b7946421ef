"""RUNS: what is put and taken at two SIDES, what PUTS have seen, what SIDES know (section 6)."""

from bothroads.errors import NoPlace
from bothroads.values import are_numbers_from


def is_run(thing):
    """Tell whether thing is a RUN, of whatever length, of whatever letters."""
    if not isinstance(thing, tuple) or not all([is_event(own) for own in thing]):
        return False
    on_road_to = [0, 0]
    for side, letter in thing:
        if letter > 0:
            on_road_to[1 - side] += 1
        elif on_road_to[side] > 0:
            on_road_to[side] -= 1
        else:
            return False
    return True


def is_event(thing):
    """Tell whether thing is an EVENT, whether or not a letter is there to be taken."""
    return are_numbers_from(thing, 0) and len(thing) == 2 and thing[0] < 2


def learnings(run):
    """Give the list with, for each EVENT, the triple of its side, its letter and the number of its PUT.

    The PUT is the one that the side comes to know then: its own one, or behind a letter 0 the one that it takes.
    """
    sent_from = ([], [])
    taken = [0, 0]
    many = 0
    found = []
    for side, letter in run:
        if letter > 0:
            sent_from[side].append(many)
            found.append((side, letter, many))
            many += 1
        else:
            found.append((side, letter, sent_from[1 - side][taken[side]]))
            taken[side] += 1
    return found


def road_to(run, side):
    """Give the WORD of the letters on the road to side."""
    sent = [letter for at, letter in run if at != side and letter > 0]
    taken = [letter for at, letter in run if at == side and letter == 0]
    return tuple(sent[len(taken):])


def roads(run):
    """Give the pair of the WORDS of the letters on the road to SIDE 0, and to SIDE 1."""
    return road_to(run, 0), road_to(run, 1)


def is_at_rest(run):
    """Tell whether no letter is on a road."""
    return roads(run) == ((), ())


def can_take(run, side):
    """Tell whether a letter is on the road to side."""
    return len(road_to(run, side)) > 0


def puts_of(run):
    """Give the tuple with, for each PUT, the pair of its side and its letter."""
    return tuple([(side, letter) for side, letter in run if letter > 0])


def letters_put(run):
    """Give the list of the letters of the PUTS."""
    return [letter for _, letter in run if letter > 0]


def sights(run):
    """Give the list with, for each PUT, its side and the latest PUT of the other SIDE that it has seen, or -1."""
    latest = [-1, -1]
    found = []
    for side, letter, number in learnings(run):
        if letter > 0:
            found.append((side, latest[side]))
        else:
            latest[side] = number
    return found


def has_seen(views, later, elder):
    """Tell, by the sights of a RUN, whether PUT later has seen PUT elder, one ahead of it."""
    side, latest = views[later]
    return views[elder][0] == side or elder <= latest


def seen(run, number):
    """Give the set of the PUTS that PUT number has seen; NoPlace if there is no such PUT."""
    views = sights(run)
    if not 0 <= number < len(views):
        raise NoPlace(number)
    return tuple([elder for elder in range(number) if has_seen(views, number, elder)])


def known(run, side):
    """Give the set of the PUTS that side knows behind run."""
    return tuple(sorted([number for at, _, number in learnings(run) if at == side]))


def settled(run):
    """Give run with EVENTS behind it by which first SIDE 0, then SIDE 1 takes all that is on the road to it."""
    to_first, to_second = roads(run)
    return tuple([(side, letter) for side, letter in run]) + ((0, 0),) * len(to_first) + ((1, 0),) * len(to_second)


def exchanged(run):
    """Give the RUN in which each EVENT is at the other SIDE."""
    return tuple([(1 - side, letter) for side, letter in run])
