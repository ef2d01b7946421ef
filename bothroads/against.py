"""RUNS against given PAIRS: where a BREACH shows that a bare road is not enough (section 16)."""

from bothroads.bare import gone
from bothroads.errors import Unfit
from bothroads.keepers import answers, bare_roads, check_pair_fits, has_letters, refutes
from bothroads.law import breach
from bothroads.machines import takes
from bothroads.runs import is_at_rest, is_run, letters_put
from bothroads.weavings import order_of


def gone_one_by_one(side, word):
    """Give the EVENTS by which each letter of word is put at side, and taken as soon as it is put."""
    return tuple([event for letter in word for event in gone(side, (letter,))])


def trials(tale, side, low, high):
    """Give the three RUNS of tale: known in order, crossing, and each letter taken as soon as it is put."""
    ahead, word, between, behind = [tuple(own) for own in tale]
    other = 1 - side
    one = tuple([(side, letter) for letter in word])
    heard = ((other, 0),) * len(word)
    first = gone(side, ahead) + gone(side, word * high) + gone(other, between) + gone(side, behind)
    crossing = one * high + heard * low + gone(other, between) + heard * (high - low)
    second = gone(side, ahead) + crossing + gone(side, behind)
    third = (
        gone_one_by_one(side, ahead + word * low)
        + gone_one_by_one(other, between)
        + gone_one_by_one(side, word * (high - low) + behind)
    )
    return first, second, third


def stands_gone(pair, side, stands, word):
    """Give the pair of the STANDS of side and of the other one behind stands, if word, put at side, goes."""
    sent, heard = pair[side][1], pair[1 - side][2]
    now, beside = stands
    for letter in word:
        now, mark = sent[now][letter - 1]
        beside = heard[beside][letter - 1][mark]
    return now, beside


def round_of_trials(pair, tale, side):
    """Give the pair (low, high) that comes round, with the least high; Unfit if tale has a letter that pair has not."""
    ahead, word, _, _ = tale
    if not all([has_letters(pair, own) for own in tale]):
        raise Unfit()
    stands = stands_gone(pair, side, stands_gone(pair, side, (0, 0), ahead), word)
    counts = {}
    while stands[1] not in counts:
        counts[stands[1]] = len(counts) + 1
        stands = stands_gone(pair, side, stands, word)
    return counts[stands[1]], len(counts) + 1


def tried(pair, machine, side):
    """Give the three RUNS of the BREACH of machine that come round in pair; TooMuch, then CanNot if it is lawful."""
    tale = breach(machine)
    low, high = round_of_trials(pair, tale, side)
    return trials(tale, side, low, high)


def road_against(pair, machine, side):
    """Give a RUN that refutes pair for machine, which is not lawful; Unfit unless the road of side is bare."""
    check_pair_fits(pair, machine)
    if side not in bare_roads(pair):
        raise Unfit()
    return [run for run in tried(pair, machine, side) if refutes(pair, machine, run)][0]


def order_against(pair, machine, side):
    """Give a RUN at rest behind which some answer is not that for what side knows, in its order."""
    check_pair_fits(pair, machine)
    # The one that puts most does and hears the same in two of them, in which the other one knows unlike orders.
    runs = tried(pair, machine, 1 - side)
    return [run for run in runs if is_order_against(pair, machine, side, run)][0]


def is_order_against(pair, machine, side, thing):
    """Tell whether thing is a RUN at rest behind which some answer is not that for what side knows, in its order."""
    check_pair_fits(pair, machine)
    if not is_run(thing) or not has_letters(pair, letters_put(thing)) or not is_at_rest(thing):
        return False
    letters = letters_put(thing)
    taken = takes(machine, [letters[number] for number in order_of(thing, side)])
    return answers(pair, thing) != (taken, taken)
