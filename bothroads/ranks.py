"""Ranks: the order of all PUTS that one bit a letter tells (section 9)."""

from bothroads.errors import CanNot
from bothroads.runs import known, learnings
from bothroads.values import are_numbers_from


def bit_of(rank):
    """Give the bit of a PUT of this rank."""
    return rank // 2 % 2


def ranked(run):
    """Give three lists: the ranks of the PUTS, of the SIDES behind run, and the greatest that each SIDE took, or -1."""
    found = []
    now = [0, 1]
    greatest = [-1, -1]
    for side, letter, number in learnings(run):
        if letter == 0:
            greatest[side] = max(greatest[side], found[number])
        else:
            if greatest[side] > now[side]:
                now[side] += 2
            found.append(now[side])
    return found, now, greatest


def ranks(run):
    """Give the tuple of the ranks of the PUTS."""
    return tuple(ranked(run)[0])


def bits(run):
    """Give the tuple of the bits of the PUTS."""
    return tuple([bit_of(rank) for rank in ranks(run)])


def ranks_now(run):
    """Give the pair of the ranks that both SIDES have behind run."""
    return tuple(ranked(run)[1])


def ranks_told(side, told):
    """Give the tuple of the ranks of the PUTS of side whose bits are told, from its first one on."""
    now = side
    found = []
    for bit in told:
        # The rank of a PUT has another bit than that ahead of it, or than the first rank of the SIDE, if it goes on.
        if bit != bit_of(now):
            now += 2
        found.append(now)
    return tuple(found)


def laps(run):
    """Give the tuple of the pairs, ascending, of each rank that some PUT has and the set of the PUTS that have it."""
    found = {}
    for number, rank in enumerate(ranks(run)):
        found.setdefault(rank, []).append(number)
    return tuple([(rank, tuple(found[rank])) for rank in sorted(found)])


def by_ranks(told, numbers):
    """Give the tuple of numbers of PUTS by ranks, told for all PUTS."""
    return tuple([number for _, number in sorted([(told[number], number) for number in numbers])])


def rank_weaving(run):
    """Give the tuple of all PUTS by ranks."""
    told = ranks(run)
    return by_ranks(told, list(range(len(told))))


def rank_order(run, side):
    """Give the tuple of the PUTS that side knows, by ranks."""
    return by_ranks(ranks(run), known(run, side))


def moved(run):
    """Give the tuple with, for each EVENT that takes, how many PUTS its SIDE knows then with a greater rank."""
    told = ranks(run)
    known_by = ([], [])
    found = []
    for side, letter, number in learnings(run):
        if letter == 0:
            found.append(len([rank for rank in known_by[side] if rank > told[number]]))
        known_by[side].append(told[number])
    return tuple(found)


def is_ranked(puts, thing):
    """Tell whether thing is the tuple of the ranks of some RUN with these puts, in this order."""
    if not are_numbers_from(thing, 0) or len(thing) != len(puts):
        return False
    now = [0, 1]
    latest = [-1, -1]
    for (side, _), rank in zip(puts, thing):
        # A SIDE takes only what it has to: so it can go on just if a letter of a greater rank was put, and never must.
        if rank == now[side] + 2 and latest[1 - side] > now[side]:
            now[side] = rank
        elif rank != now[side]:
            return False
        latest[side] = rank
    return True


def ranked_run(puts, told):
    """Give the RUN with these puts and ranks that takes the fewest letters, each as late as can be; CanNot if none."""
    if not is_ranked(puts, tuple(told)):
        raise CanNot()
    now = [0, 1]
    put_by = ([], [])
    taken = [0, 0]
    events = []
    for (side, letter), rank in zip(puts, told):
        # To go on, a SIDE takes up to the first letter of a rank above its own: ahead of that it does not take any.
        while now[side] < rank:
            heard = put_by[1 - side][taken[side]]
            taken[side] += 1
            events.append((side, 0))
            if heard > now[side]:
                now[side] = rank
        put_by[side].append(rank)
        events.append((side, letter))
    return tuple(events)
