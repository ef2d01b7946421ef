"""One judge: CLAIMS of six kinds, PAPERS for and against them, and what comes of others (section 18)."""

from bothroads.doings import are_words, commutes, counted_least, crossed, doing, product
from bothroads.errors import Unfit
from bothroads.groups import fewest_marks, is_group, is_marks_table, is_telling, states_led, telling_words
from bothroads.keepers import answers, is_pair, letters_of, refutes
from bothroads.law import breach, is_breach, is_lawful
from bothroads.machines import are_alike, is_machine, least, letters_in, parting_word, state_behind, takes
from bothroads.runs import is_at_rest, is_run, letters_put
from bothroads.values import are_numbers_from, is_number, tupled
from bothroads.weavings import is_weaving, reads, states_come, weaving_to

SIZES = {"alike": 3, "free": 2, "lawful": 2, "led": 4, "held": 4, "marks": 4}
# The kinds whose MACHINE must not have too many DOINGS, and where the MACHINE stands in a CLAIM.
COUNTED = ("free", "lawful", "marks")
PLACES = {"alike": 1, "free": 1, "lawful": 1, "led": 1, "held": 2, "marks": 1}


def is_claim(thing):
    """Tell whether thing is a CLAIM."""
    if not isinstance(thing, tuple) or len(thing) == 0 or not isinstance(thing[0], str) or thing[0] not in SIZES:
        return False
    kind = thing[0]
    if len(thing) != SIZES[kind] or not is_machine(thing[PLACES[kind]]):
        return False
    if kind == "alike":
        return is_machine(thing[2]) and letters_in(thing[1]) == letters_in(thing[2])
    if kind == "led":
        return is_run_for(thing[1], thing[2]) and is_number(thing[3]) and thing[3] >= 0
    if kind == "held":
        _, pair, machine, run = thing
        if not is_pair(pair) or letters_of(pair[0]) != letters_in(machine):
            return False
        return is_run_for(machine, run) and is_at_rest(run)
    if kind == "marks":
        _, machine, letter, many = thing
        return are_numbers_from((letter, many), 1) and letter <= letters_in(machine) and is_group(least(machine))
    return True


def is_run_for(machine, thing):
    """Tell whether thing is a RUN with letters of machine alone."""
    return is_run(thing) and max(letters_put(thing), default=1) <= letters_in(machine)


def fit_claim(claim):
    """Give the CLAIM that claim, maybe of lists, stands for; Unfit if it is none."""
    told = tupled(claim)
    if not is_claim(told):
        raise Unfit()
    return told


def fit_claims(claims):
    """Give the list of the CLAIMS that claims stand for; Unfit if one is none."""
    return [fit_claim(own) for own in claims]


def check_counted(claim):
    """Raise TooMuch if the MACHINE of a CLAIM about DOINGS has too many."""
    if claim[0] in COUNTED:
        counted_least(claim[1])


def is_so(claim):
    """Tell whether claim is so; Unfit if it is none, then TooMuch."""
    told = fit_claim(claim)
    check_counted(told)
    return holds(told)


def holds(claim):
    """Tell whether a CLAIM is so."""
    kind = claim[0]
    if kind == "alike":
        return are_alike(claim[1], claim[2])
    if kind == "free":
        return commutes(claim[1])
    if kind == "lawful":
        return is_lawful(claim[1])
    if kind == "led":
        return claim[3] in states_come(claim[1], claim[2])
    if kind == "held":
        return not refutes(claim[1], claim[2], claim[3])
    return fewest_marks(claim[1], claim[2]) >= claim[3]


def paper(claim):
    """Give a PAPER for claim if it is so, otherwise one against it; Unfit if it is none, then TooMuch."""
    told = fit_claim(claim)
    check_counted(told)
    return paper_for(told) if holds(told) else paper_against(told)


def paper_for(claim):
    """Give a PAPER for a CLAIM that is so."""
    kind = claim[0]
    if kind == "led":
        return weaving_to(claim[1], claim[2], claim[3])
    if kind == "held":
        return weaving_answered(claim[1], claim[2], claim[3])
    if kind == "marks":
        return telling_words(claim[1], claim[2])[:claim[3]]
    return ()


def weaving_answered(pair, machine, run):
    """Give a WEAVING of run, which does not refute pair, for which machine answers as both SIDES do."""
    told = answers(pair, run)[0]
    ends = least(machine)[1]
    states = [state for state in states_come(machine, run) if (state in ends) == told]
    return weaving_to(machine, run, states[0])


def paper_against(claim):
    """Give a PAPER against a CLAIM that is not so."""
    kind = claim[0]
    if kind == "alike":
        return parting_word(claim[1], claim[2])
    if kind == "free":
        return crossed(claim[1])
    if kind == "lawful":
        return breach(claim[1])
    if kind == "marks":
        return states_led(claim[1], claim[2])
    return ()


def is_paper_for(claim, thing):
    """Tell whether thing is a PAPER for claim; Unfit if this is none, then TooMuch, whatever thing is."""
    told = fit_claim(claim)
    check_counted(told)
    return is_for(told, thing)


def is_for(claim, thing):
    """Tell whether thing is a PAPER for a CLAIM."""
    kind = claim[0]
    if kind == "led":
        _, machine, run, state = claim
        return is_weaving(run, thing) and state_behind(least(machine), reads(run, thing)) == state
    if kind == "held":
        _, pair, machine, run = claim
        first, second = answers(pair, run)
        return first == second and is_weaving(run, thing) and takes(machine, reads(run, thing)) == first
    if kind == "marks":
        return is_telling(claim[1], claim[2], thing) and len(thing) == claim[3]
    return is_nothing(thing) and holds(claim)


def is_nothing(thing):
    """Tell whether thing is ()."""
    return isinstance(thing, tuple) and len(thing) == 0


def is_paper_against(claim, thing):
    """Tell whether thing is a PAPER against claim; Unfit if this is none, then TooMuch, whatever thing is."""
    told = fit_claim(claim)
    check_counted(told)
    return is_against(told, thing)


def is_against(claim, thing):
    """Tell whether thing is a PAPER against a CLAIM."""
    kind = claim[0]
    if kind == "alike":
        _, one, other = claim
        return are_words((thing,), 1, letters_in(one)) and takes(one, thing) != takes(other, thing)
    if kind == "free":
        return are_crossed(claim[1], thing)
    if kind == "lawful":
        return is_breach(claim[1], thing)
    if kind == "marks":
        _, machine, letter, many = claim
        return is_marks_table(machine, letter, thing) and all([len(own) < many for own in thing])
    return is_nothing(thing) and not holds(claim)


def are_crossed(machine, thing):
    """Tell whether thing is a pair of letters of machine whose DOINGS do not commute."""
    if not are_words((thing,), 1, letters_in(machine)) or len(thing) != 2:
        return False
    one, other = [doing(machine, (letter,)) for letter in thing]
    return product(one, other) != product(other, one)


def verdicts(claims, things):
    """Give the list of "for", "against" or "none" for each of claims and what stands at its place in things."""
    told = fit_claims(claims)
    if len(told) != len(things):
        raise Unfit()
    for claim in told:
        check_counted(claim)
    return [verdict(claim, thing) for claim, thing in zip(told, things)]


def verdict(claim, thing):
    """Give "for", "against" or "none": what thing is for a CLAIM."""
    if is_for(claim, thing):
        return "for"
    return "against" if is_against(claim, thing) else "none"


def comes_of(claim, claims):
    """Tell whether claim comes of claims; Unfit if it, or one of them, is none."""
    own = fit_claim(claim)
    given = fit_claims(claims)
    links = [(one[1], one[2]) for one in given if one[0] == "alike"]
    place = PLACES[own[0]]
    others = linked(own[place], links)
    if own[0] == "alike":
        return own[2] in others
    forms = [own] + [own[:place] + (machine,) + own[place + 1:] for machine in others]
    return any([is_told_by(form, one) for form in forms for one in given])


def linked(machine, links):
    """Give the list of the MACHINES to which links, taken either way, lead from machine: itself, too, if one does."""
    ways = links + [(other, one) for one, other in links]
    found = []
    behind = [machine]
    while behind:
        now = behind.pop()
        for one, other in ways:
            if one == now and other not in found:
                found.append(other)
                behind.append(other)
    return found


def is_told_by(claim, one):
    """Tell whether a CLAIM is one, or comes of one alone, of the same MACHINE."""
    if claim[0] == "lawful" and one == ("free", claim[1]):
        return True
    if claim[0] == "marks" and one[0] == "marks":
        return one[1:3] == claim[1:3] and one[3] >= claim[3]
    return one == claim


def first_false(claims):
    """Give the first place whose CLAIM is not so, None if all are; Unfit if one is none, then TooMuch for one asked."""
    for place, claim in enumerate(fit_claims(claims)):
        check_counted(claim)
        if not holds(claim):
            return place
    return None
