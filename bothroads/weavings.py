"""WEAVINGS: the orders of all PUTS that keep what each has seen, and where they lead (section 7).

A cut is a pair: so many first PUTS of SIDE 0, and so many first ones of SIDE 1, stand already. Of each SIDE a PUT has
seen the first ones, so many, and no others: so each WEAVING goes from cut to cut, and none has to be listed.
"""

from bothroads.errors import CanNot, NoPlace, Unfit
from bothroads.machines import check_letters, least
from bothroads.runs import has_seen, learnings, letters_put, sights
from bothroads.values import are_numbers_from


def all_of(views):
    """Give the list of the numbers of all PUTS, by the sights of their RUN."""
    return list(range(len(views)))


def is_put(views, number):
    """Tell whether number is that of a PUT."""
    return 0 <= number < len(views)


def rows_of(views, numbers):
    """Give the pair of the lists of those of numbers, ascending ones, that are PUTS of SIDE 0, and of SIDE 1."""
    rows = ([], [])
    for number in numbers:
        rows[views[number][0]].append(number)
    return rows


def ground_of(run):
    """Give the sights of run, and the rows of all its PUTS: what cuts are gone through by."""
    views = sights(run)
    return views, rows_of(views, all_of(views))


def is_woven(views, numbers, order):
    """Tell whether order has each of numbers, a set of PUTS, once, and behind all of them that it has seen."""
    if len(order) != len(numbers):
        return False
    rows = rows_of(views, numbers)
    cut = [0, 0]
    for number in order:
        if not is_put(views, number):
            return False
        side, latest = views[number]
        own, others = rows[side], rows[1 - side]
        at, beside = cut[side], cut[1 - side]
        if at == len(own) or own[at] != number:
            return False
        # The first of the others that does not stand yet tells of all of them: if it is not seen, none behind it is.
        if beside < len(others) and others[beside] <= latest:
            return False
        cut[side] += 1
    return True


def is_weaving(run, thing):
    """Tell whether thing is a WEAVING of run."""
    views = sights(run)
    return are_numbers_from(thing, 0) and is_woven(views, all_of(views), thing)


def is_weaving_of(run, numbers, thing):
    """Tell whether thing is a WEAVING of numbers; NoPlace, whatever thing is, for the first of them that is no PUT."""
    views = sights(run)
    for number in numbers:
        if not is_put(views, number):
            raise NoPlace(number)
    return are_numbers_from(thing, 0) and is_woven(views, numbers, thing)


def check_weaving(views, order):
    """Raise Unfit unless order is a WEAVING of all PUTS."""
    if not is_woven(views, all_of(views), order):
        raise Unfit()


def reads(run, weaving):
    """Give the WORD that weaving reads; Unfit if it is no WEAVING of whatever set of PUTS."""
    views = sights(run)
    numbers = sorted(set(weaving))
    if not all([is_put(views, number) for number in numbers]) or not is_woven(views, numbers, weaving):
        raise Unfit()
    letters = letters_put(run)
    return tuple([letters[number] for number in weaving])


def free_pairs(run):
    """Give the set of the pairs (elder, later) of PUTS neither of which has seen the other."""
    views = sights(run)
    found = []
    for elder in range(len(views)):
        for later in range(elder + 1, len(views)):
            if not has_seen(views, later, elder):
                found.append((elder, later))
    return tuple(found)


def going_on(views, rows, cut):
    """Give the list of the pairs of a PUT that may stand next behind cut and the cut that comes so, ascending."""
    low, high = cut
    first, second = rows
    found = []
    if low < len(first) and (high == len(second) or views[first[low]][1] < second[high]):
        found.append((first[low], (low + 1, high)))
    if high < len(second) and (low == len(first) or views[second[high]][1] < first[low]):
        found.append((second[high], (low, high + 1)))
    return sorted(found)


def ways_behind(views, rows):
    """Give, for each cut, in how many orders the PUTS that do not stand in it may stand behind it."""
    level = [(0, 0)]
    levels = []
    for _ in views:
        levels.append(level)
        level = sorted({behind for cut in level for _, behind in going_on(views, rows, cut)})
    # By now level is that of the one cut in which all PUTS stand: nothing is left to do, in one way.
    ways = {level[0]: 1}
    for shorter in reversed(levels):
        for cut in shorter:
            ways[cut] = sum([ways[behind] for _, behind in going_on(views, rows, cut)])
    return ways


def weaving_count(run):
    """Tell how many WEAVINGS of run there are."""
    views, rows = ground_of(run)
    return ways_behind(views, rows)[(0, 0)]


def weaving_at(run, number):
    """Give the WEAVING at this place of all of them, ascending; NoPlace if there is none."""
    views, rows = ground_of(run)
    ways = ways_behind(views, rows)
    cut = (0, 0)
    if not 0 <= number < ways[cut]:
        raise NoPlace(number)
    left = number
    order = []
    for _ in views:
        further = going_on(views, rows, cut)
        put, behind = further[0]
        if left >= ways[behind]:
            left -= ways[behind]
            put, behind = further[1]
        order.append(put)
        cut = behind
    return tuple(order)


def place_of(run, weaving):
    """Give the place of weaving among all of them, ascending; Unfit if it is no WEAVING."""
    views, rows = ground_of(run)
    check_weaving(views, weaving)
    ways = ways_behind(views, rows)
    cut = (0, 0)
    place = 0
    for number in weaving:
        further = going_on(views, rows, cut)
        put, behind = further[0]
        if put != number:
            place += ways[behind]
            _, behind = further[1]
        cut = behind
    return place


def otherwise(run, one, other):
    """Give the set of the pairs (elder, later) of PUTS in unlike order in both WEAVINGS; Unfit for what is none."""
    views = sights(run)
    check_weaving(views, one)
    check_weaving(views, other)
    first = {number: at for at, number in enumerate(one)}
    second = {number: at for at, number in enumerate(other)}
    found = []
    for elder in range(len(views)):
        for later in range(elder + 1, len(views)):
            if (first[elder] < first[later]) != (second[elder] < second[later]):
                found.append((elder, later))
    return tuple(found)


def order_of(run, side):
    """Give the tuple of the PUTS that side knows, in the order in which it came to know them."""
    return tuple([number for at, _, number in learnings(run) if at == side])


def states_further(small, letters, views, rows, level):
    """Give, for each cut of one PUT more, what level gives for each of its own: the STATES to which orders lead."""
    steps = small[0]
    further = {}
    for cut in level:
        for number, behind in going_on(views, rows, cut):
            led = [steps[state][letters[number] - 1] for state in level[cut]]
            further[behind] = sorted(set(led + further.get(behind, [])))
    return further


def states_come(machine, run):
    """Give the set of the STATES to which WEAVINGS lead; NoPlace for the first letter put that machine has not."""
    letters = letters_put(run)
    check_letters(machine, letters)
    small = least(machine)
    views, rows = ground_of(run)
    level = {(0, 0): [0]}
    for _ in views:
        level = states_further(small, letters, views, rows, level)
    return tuple(level[(len(rows[0]), len(rows[1]))])


def answers_come(machine, run):
    """Give the set of whether machine takes what WEAVINGS read, of False, True."""
    states = states_come(machine, run)
    ends = least(machine)[1]
    return tuple(sorted({state in ends for state in states}))


def weaving_to(machine, run, state):
    """Give a WEAVING that leads to state; CanNot if there is none."""
    letters = letters_put(run)
    check_letters(machine, letters)
    small = least(machine)
    views, rows = ground_of(run)
    level = {(0, 0): [0]}
    levels = []
    for _ in views:
        levels.append(level)
        level = states_further(small, letters, views, rows, level)
    cut = (len(rows[0]), len(rows[1]))
    if state not in level[cut]:
        raise CanNot()
    now = state
    order = []
    for shorter in reversed(levels):
        number, cut, now = step_back(small, letters, rows, shorter, cut, now)
        order.append(number)
    return tuple(order[::-1])


def step_back(small, letters, rows, level, cut, state):
    """Give a last PUT of cut by which orders of it lead to state, and the cut and a STATE ahead of it, in level."""
    steps = small[0]
    found = []
    for side, ahead in ((0, (cut[0] - 1, cut[1])), (1, (cut[0], cut[1] - 1))):
        if ahead in level:
            number = rows[side][ahead[side]]
            at = letters[number] - 1
            found.extend([(number, ahead, elder) for elder in level[ahead] if steps[elder][at] == state])
    return found[0]
