"""RUNS and PAIRS of each kind for the tests, and plain walks along RUNS that share no code with the package."""

import itertools
import random

import samples

EMPTY = ()
MEET = ((0, 2), (1, 1), (1, 0), (1, 3), (0, 0))
CROSS = ((0, 1), (1, 2), (0, 0), (1, 0))
LATER = ((0, 1), (0, 2), (1, 1), (1, 0), (1, 2), (0, 0))
AT_REST = [
    EMPTY,
    CROSS,
    ((0, 1), (1, 0)),
    ((1, 3), (0, 0), (0, 2), (1, 0)),
    ((0, 1), (0, 2), (1, 2), (1, 1), (0, 0), (1, 0), (1, 0), (0, 0)),
]
TO_ONE = [((0, 1),), ((1, 2), (1, 1), (0, 0)), MEET, ((1, 1),) * 5]
TO_BOTH = [LATER, ((0, 1), (1, 1)), ((1, 2), (0, 1), (0, 0), (0, 2), (1, 1))]
ONE_SIDED = [((0, 1),) * 4, ((1, 2), (0, 0), (1, 1), (0, 0)), ((1, 3), (1, 1), (0, 0), (0, 0))]
# Each letter is taken as soon as it is put: there is one WEAVING. Nothing is taken before all is put: there are many.
IN_TURN = ((0, 1), (1, 0), (1, 2), (0, 0)) * 4
OPEN = ((0, 1), (1, 2), (0, 2), (1, 1)) * 15
SOME = AT_REST + TO_ONE + TO_BOTH + ONE_SIDED + [IN_TURN]

# KEEPERS of one letter: whether letters known are odd; what tells marks, and what hears them.
COUNT = ((False, True), (((1, 0),), ((0, 0),)), (((1,),), ((0,),)))
LEAD = ((False, True), (((1, 0),), ((0, 1),)), (((1,),), ((0,),)))
HEAR = ((False, True), (((1, 0),), ((0, 0),)), (((1, 1),), ((0, 0),)))
STUCK = ((False,), (((0, 0),),), (((0,),),))
# Of two letters: whether the last one known is 1.
LATEST = ((False, True), (((1, 0), (0, 0)),) * 2, (((1,), (0,)),) * 2)
BOTH_BARE = [(COUNT, COUNT), (LATEST, LATEST), (STUCK, COUNT)]
ONE_BARE = [(LEAD, HEAR), (HEAR, LEAD), (COUNT, HEAR)]


def every_run(longest, letters):
    """Go through all RUNS of up to so many EVENTS with these letters, the shortest first."""
    level = [((), (0, 0))]
    for _ in range(longest + 1):
        further = []
        for run, (to_first, to_second) in level:
            yield run
            for letter in range(1, letters + 1):
                further.append((run + ((0, letter),), (to_first, to_second + 1)))
                further.append((run + ((1, letter),), (to_first + 1, to_second)))
            if to_first:
                further.append((run + ((0, 0),), (to_first - 1, to_second)))
            if to_second:
                further.append((run + ((1, 0),), (to_first, to_second - 1)))
        level = further


def drawn_run(draw, events, letters):
    run, waiting = [], [0, 0]
    for _ in range(events):
        side = draw.randrange(2)
        if waiting[side] and draw.random() < 0.5:
            waiting[side] -= 1
            run.append((side, 0))
        else:
            waiting[1 - side] += 1
            run.append((side, draw.randint(1, letters)))
    return tuple(run)


def drawn_runs(many, seed, events=10, letters=2):
    """Draw so many RUNS of up to so many EVENTS, the same ones whenever it is asked."""
    draw = random.Random(seed)
    return [drawn_run(draw, draw.randint(0, events), letters) for _ in range(many)]


def drawn_keeper(draw, stands, letters, marks, sends):
    return (
        tuple([draw.random() < 0.5 for _ in range(stands)]),
        tuple([tuple([(draw.randrange(stands), draw.randrange(sends)) for _ in range(letters)]) for _ in range(stands)]),
        tuple(
            [
                tuple([tuple([draw.randrange(stands) for _ in range(marks)]) for _ in range(letters)])
                for _ in range(stands)
            ]
        ),
    )


def drawn_pairs(many, seed, letters, marks=3, stands=4):
    """Draw so many PAIRS of KEEPERS of so many letters, that take up to so many marks."""
    draw = random.Random(seed)
    found = []
    for _ in range(many):
        first, second = draw.randint(1, marks), draw.randint(1, marks)
        one = drawn_keeper(draw, draw.randint(1, stands), letters, first, second)
        found.append((one, drawn_keeper(draw, draw.randint(1, stands), letters, second, first)))
    return found


class History:
    """What a plain walk along a RUN tells, letter by letter on roads that are lists."""

    def __init__(self, run):
        self.puts, self.seen, self.known, self.roads = [], [], ([], []), ([], [])
        for side, letter in run:
            if letter:
                number = len(self.puts)
                self.puts.append((side, letter))
                self.seen.append(sorted(self.known[side]))
                self.roads[1 - side].append(number)
            else:
                number = self.roads[side].pop(0)
            self.known[side].append(number)

    def letters(self, numbers):
        return tuple([self.puts[number][1] for number in numbers])

    def is_weaving(self, numbers, order):
        """Tell whether order has each of numbers once, and all of them that a PUT has seen ahead of it."""
        if sorted(order) != sorted(numbers):
            return False
        return all([set(self.seen[own]) & set(numbers) <= set(order[:at]) for at, own in enumerate(order)])

    def weavings(self):
        numbers = range(len(self.puts))
        return [order for order in itertools.permutations(numbers) if self.is_weaving(numbers, order)]

    def states(self, machine):
        small = samples.plain_least(machine)
        return sorted({samples.plain_state(small, self.letters(order)) for order in self.weavings()})

    def answers(self, machine):
        return sorted({samples.plain_takes(machine, self.letters(order)) for order in self.weavings()})


class PlainRanks:
    """Ranks as the document tells them, by a plain walk; each take beside what its SIDE has and knows then."""

    def __init__(self, run):
        self.now, self.told, self.takes = [0, 1], [], []
        roads, taken, known = ([], []), ([], []), ([], [])
        for side, letter in run:
            if letter:
                if any([rank > self.now[side] for rank in taken[side]]):
                    self.now[side] += 2
                number = len(self.told)
                self.told.append(self.now[side])
                roads[1 - side].append(number)
            else:
                number = roads[side].pop(0)
                taken[side].append(self.told[number])
                self.takes.append((side, number, self.now[side], list(known[side])))
            known[side].append(number)
        self.known = known

    def by_ranks(self, numbers):
        return tuple(sorted(numbers, key=lambda number: (self.told[number], number)))


def plain_walk(pair, run):
    """Walk a PAIR along a RUN: give the STANDS along it and the marks sent."""
    stands, roads, marks = [0, 0], ([], []), []
    along = [(0, 0)]
    for side, letter in run:
        _, sent, heard = pair[side]
        if letter:
            stands[side], mark = sent[stands[side]][letter - 1]
            marks.append(mark)
            roads[1 - side].append((letter, mark))
        else:
            letter, mark = roads[side].pop(0)
            stands[side] = heard[stands[side]][letter - 1][mark]
        along.append(tuple(stands))
    return along, tuple(marks)


def plain_answers(pair, run):
    stands = plain_walk(pair, run)[0][-1]
    return tuple([keeper[0][stand] for keeper, stand in zip(pair, stands)])


def plain_refutes(pair, machine, run):
    """Tell of a RUN of their letters whether it refutes, by all its WEAVINGS."""
    told = History(run)
    first, second = plain_answers(pair, run)
    return told.roads == ([], []) and (first != second or first not in told.answers(machine))
