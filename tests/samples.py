"""MACHINES of each kind for the tests, and plain searches that share no code with the package."""

import itertools
import random

# All doings commute.
ODD = (((1,), (0,)), (1,))
FOURS = (((1,), (2,), (3,), (0,)), (1, 3))
TWO_ODD = (((1, 2), (0, 3), (3, 0), (2, 1)), (3,))
UP_TO_TWO = (((1, 0), (2, 1), (2, 2)), (2,))
THREE_SAME = (((1, 1, 2), (2, 2, 0), (0, 0, 1)), (0,))
LIGHT = (((1, 2), (0, 2), (2, 2)), (1,))
LONE = (((0,),), (0,))
NEVER = (((0, 0, 0),), ())
# Lawful, not all doings commute, no group's.
BEGINS = (((1, 2), (1, 1), (2, 2)), (1,))
SWITCH = (((0, 1), (2, 1), (1, 2)), (2,))
BEGUN = (((1, 2), (1, 3), (2, 2), (3, 1)), (1,))
# A group's, not all doings commute.
SPINS = (((1, 0), (0, 2), (2, 1)), (0,))
WHEEL = (((1, 1), (0, 2), (2, 0)), (0,))
CUBE = (((2, 2, 1), (3, 3, 0), (1, 4, 3), (0, 5, 2), (4, 0, 5), (5, 1, 4)), (0,))
# Not lawful.
LAST = (((1, 0), (1, 0)), (1,))
IN_TURN = (((1, 0), (1, 2), (2, 2)), (2,))
LOCK = (((1, 2, 0), (1, 1, 0), (2, 2, 0)), (1,))

FREE = [ODD, FOURS, TWO_ODD, UP_TO_TWO, THREE_SAME, LIGHT, LONE, NEVER]
LAWFUL = [BEGINS, SWITCH, BEGUN]
GROUPS = [SPINS, WHEEL, CUBE]
LAWLESS = [LAST, IN_TURN, LOCK]
# STATES told twice, and STATES that nothing comes to.
TWICE = (((2, 1), (2, 1), (2, 3), (2, 1), (4, 0)), (2, 4))
UNCOME = (((0, 3), (1, 2), (2, 1), (3, 0)), (1, 3))
UNTIDY = [TWICE, UNCOME, (((0, 1), (1, 0)), ()), (((1,), (0,), (2,)), (0, 1))]
ALL = FREE + LAWFUL + GROUPS + LAWLESS + UNTIDY

JUST_48 = [
    (((1, 0), (2, 3), (3, 2), (3, 0)), (0, 2, 3)),
    (((1, 1, 1), (2, 1, 1), (0, 3, 1), (1, 3, 2)), (1, 2)),
    (tuple([((own + 1) % 48,) for own in range(48)]), (0,)),
    CUBE,
]
ABOVE_48 = [
    (((1, 2), (1, 1), (2, 3), (4, 3), (0, 2)), (0, 1, 4)),
    (((1, 2, 2), (0, 1, 3), (0, 0, 2), (2, 1, 3)), (2, 3)),
    (tuple([((own + 1) % 49,) for own in range(49)]), (0,)),
    (tuple([((own + 1) % 12, (1, 0)[own] if own < 2 else own, own if own else 1) for own in range(12)]), (0,)),
]

# By how many NOTES there are of each SIDE; all have less than 48 DOINGS but CUBE. The first one is a group's.
JUST_400 = [
    (((0, 1), (2, 3), (4, 5), (6, 0), (1, 4), (5, 7), (7, 6), (3, 2)), (0,)),
    (((1, 0), (1, 2), (3, 3), (4, 1), (2, 4)), (3,)),
]
ABOVE_400 = [
    (((1, 1), (2, 3), (4, 5), (4, 5), (3, 1), (3, 2)), (3, 5)),
    (((1, 0), (1, 2), (3, 2), (4, 3), (5, 2), (4, 5)), (5,)),
    CUBE,
]

# Numbers that are none, tuples that are none, and more that has to be told from the values of the document.
ODD_THINGS = [None, True, False, "", "12", 0, 1, -1, [], [1], [(1,)], (None,), ("1",), (True,), (False,), ((),), ([],)]


def nested(made, deep):
    """Give a nest of tuples, or lists, so many levels deep."""
    now = made()
    for _ in range(deep):
        now = made([now])
    return now


def listed(value):
    """Give value with lists for tuples, at every depth."""
    return [listed(own) for own in value] if isinstance(value, tuple) else value


def drawn_machines(many, seed, states=4, letters=3):
    """Draw so many MACHINES, the same ones whenever it is asked."""
    draw = random.Random(seed)
    found = []
    for _ in range(many):
        size, has = draw.randint(1, states), draw.randint(1, letters)
        steps = tuple([tuple([draw.randrange(size) for _ in range(has)]) for _ in range(size)])
        found.append((steps, tuple(sorted(draw.sample(range(size), draw.randint(0, size))))))
    return found


def every_machine(states, letters):
    """Go through all MACHINES of so many STATES and letters."""
    rows = list(itertools.product(range(states), repeat=letters))
    for steps in itertools.product(rows, repeat=states):
        for many in range(states + 1):
            for ends in itertools.combinations(range(states), many):
                yield steps, ends


def words_to(longest, letters):
    """Go through all WORDS of up to so many letters: the shortest first, those of one length ascending."""
    for length in range(longest + 1):
        yield from itertools.product(range(1, letters + 1), repeat=length)


def plain_state(machine, word, start=0):
    now = start
    for letter in word:
        now = machine[0][now][letter - 1]
    return now


def plain_takes(machine, word):
    return plain_state(machine, word) in machine[1]


def answers_behind(machine, word):
    """Tell by all short WORDS behind it what word has come to: as many letters as STATES part all that can be."""
    letters = len(machine[0][0])
    return tuple([plain_takes(machine, word + more) for more in words_to(len(machine[0]) - 1, letters)])


def plain_least(machine):
    """Number what WORDS come to as it is first come to, the shortest WORDS first."""
    letters = len(machine[0][0])
    come, firsts = {}, []
    for word in words_to(len(machine[0]) - 1, letters):
        told = answers_behind(machine, word)
        if told not in come:
            come[told] = len(firsts)
            firsts.append(word)
    steps = [tuple([come[answers_behind(machine, word + (own,))] for own in range(1, letters + 1)]) for word in firsts]
    return tuple(steps), tuple([at for at, word in enumerate(firsts) if plain_takes(machine, word)])


def plain_doing(small, word):
    return tuple([plain_state(small, word, start) for start in range(len(small[0]))])


def plain_product(one, other):
    return tuple([other[own] for own in one])


def plain_doings(small):
    """Close the DOINGS of letters under products."""
    letters = [plain_doing(small, (own,)) for own in range(1, len(small[0][0]) + 1)]
    found, new = set(), {tuple(range(len(small[0])))}
    while new:
        found |= new
        new = {plain_product(one, letter) for one in new for letter in letters} - found
    return found


def words_by_doing(small, longest):
    """Give for each DOING of a WORD of up to so many letters the list of these WORDS, the shortest first."""
    found = {}
    for word in words_to(longest, len(small[0][0])):
        found.setdefault(plain_doing(small, word), []).append(word)
    return found


def plain_surroundings(machine, one_word, other_word, longest):
    """Search all pairs of short WORDS: of those that part both, the ones with the fewest letters, of these the least."""
    letters = len(machine[0][0])
    words = list(words_to(longest, letters))
    for many in range(longest + 1):
        parting = [
            (ahead, behind)
            for ahead in words
            for behind in words
            if len(ahead) + len(behind) == many
            and plain_takes(machine, ahead + one_word + behind) != plain_takes(machine, ahead + other_word + behind)
        ]
        if parting:
            return min(parting)
    return None
