"""The law: whether marks are needed on no road, on one alone, or on both, and WORDS that break it (section 12)."""

from bothroads.doings import (
    are_words,
    commutes,
    counted_least,
    doing_by,
    doings_of_letters,
    halts,
    product,
    surroundings,
    words_to_doings,
)
from bothroads.errors import CanNot
from bothroads.machines import least, letters_in, takes


def broken(machine):
    """Give the set of the pairs of a DOING e that halts and a letter with DOING b such that e . b . e is not e . b."""
    small = counted_least(machine)
    letters = doings_of_letters(small)
    found = []
    for one in words_to_doings(small):
        if halts(one):
            for letter, own in enumerate(letters, start=1):
                if product(product(one, own), one) != product(one, own):
                    found.append((one, letter))
    return tuple(sorted(found))


def is_lawful(machine):
    """Tell whether machine is lawful: it is if no letter breaks it."""
    return len(broken(machine)) == 0


def breach(machine):
    """Give the BREACH with the first WORD, letter and SURROUNDINGS that there are; CanNot if machine is lawful."""
    pairs = broken(machine)
    if not pairs:
        raise CanNot()
    small = least(machine)
    words = words_to_doings(small)
    _, word, letter, one = min([(len(words[one]), words[one], letter, one) for one, letter in pairs])
    without = product(one, doing_by(small, (letter,)))
    ahead, behind = surroundings(machine, without, product(without, one))
    return ahead, word, (letter,), behind


def is_breach(machine, thing):
    """Tell whether thing is a BREACH of machine."""
    small = counted_least(machine)
    if not are_words(thing, 4, letters_in(small)):
        return False
    ahead, word, between, behind = thing
    if not halts(doing_by(small, word)):
        return False
    return takes(small, ahead + word + between + behind) != takes(small, ahead + word + between + word + behind)


def kind(machine):
    """Tell on which roads marks are needed: "none", "one" (whichever it is) or "both"."""
    if commutes(machine):
        return "none"
    return "one" if is_lawful(machine) else "both"
