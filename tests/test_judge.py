"""[18]: CLAIMS, what is so, PAPERS for and against, verdicts, what comes of others."""

import itertools
import unittest

import samples
from calls import check_calls, check_no_things, nests, spoilt
from walks import (
    BOTH_BARE,
    COUNT,
    CROSS,
    HEAR,
    LATEST,
    LATER,
    LEAD,
    MEET,
    STUCK,
    History,
    drawn_pairs,
    drawn_runs,
    every_run,
    plain_answers,
)
from bothroads.bits import bit_pair
from bothroads.doings import doing, product
from bothroads.errors import TooMuch, Unfit
from bothroads.groups import fewest_marks, is_marks_table, is_telling, states_led
from bothroads.judge import comes_of, first_false, is_claim, is_paper_against, is_paper_for, is_so, paper, verdicts
from bothroads.law import is_breach, is_lawful
from bothroads.machines import least
from bothroads.runs import is_at_rest

TWO = [own for own in samples.ALL if len(own[0][0]) == 2]
RUNS = [own for own in drawn_runs(40, 181, events=7, letters=2) if len(own) > 0] + [(), CROSS, LATER]
REST = [own for own in every_run(6, 2) if is_at_rest(own)][::17] + [(), CROSS]
PAIRS = drawn_pairs(8, 182, letters=2) + [BOTH_BARE[1], bit_pair(samples.LAST)]

ALIKE = [("alike", one, other) for one in samples.ALL for other in samples.ALL if len(one[0][0]) == len(other[0][0])]
FREE = [("free", own) for own in samples.ALL]
LAWFUL = [("lawful", own) for own in samples.ALL]
LED = [("led", own, run, state) for own in TWO for run in RUNS[::2] for state in (0, 1, 5)] + [
    ("led", samples.NEVER, MEET, 0),
    ("led", samples.LOCK, MEET, 10**30),
]
HELD = [("held", pair, own, run) for pair in PAIRS for own in TWO[::2] for run in REST]
MARKS = [
    ("marks", own, letter, many)
    for own in samples.GROUPS + [samples.ODD, samples.TWO_ODD, samples.LONE]
    for letter in range(1, len(own[0][0]) + 1)
    for many in (1, 2, 3, 4, 10**30)
]
KINDS = {"alike": ALIKE, "free": FREE, "lawful": LAWFUL, "led": LED, "held": HELD, "marks": MARKS}
CLAIMS = [own for row in KINDS.values() for own in row]


def plain_so(claim):
    """Tell whether a CLAIM is so, by plain searches."""
    kind, *told = claim
    if kind == "alike":
        return samples.plain_least(told[0]) == samples.plain_least(told[1])
    if kind in ("free", "lawful"):
        every = samples.plain_doings(samples.plain_least(told[0]))
        if kind == "free":
            return all([product(one, other) == product(other, one) for one in every for other in every])
        halt = [one for one in every if product(one, one) == one]
        return all([product(product(e, b), e) == product(e, b) for e in halt for b in every])
    if kind == "led":
        return told[2] in History(told[1]).states(told[0])
    if kind == "held":
        first, second = plain_answers(told[0], told[2])
        return first == second and first in History(told[2]).answers(told[1])
    return fewest_marks(told[0], told[1]) >= told[2]


def plain_for(claim, thing):
    """Tell whether thing, a tuple, is a PAPER for a CLAIM."""
    kind, *told = claim
    if kind == "led":
        machine, run, state = told
        history = History(run)
        if not history.is_weaving(range(len(history.puts)), thing):
            return False
        return samples.plain_state(samples.plain_least(machine), history.letters(thing)) == state
    if kind == "held":
        pair, machine, run = told
        history = History(run)
        first, second = plain_answers(pair, run)
        if first != second or not history.is_weaving(range(len(history.puts)), thing):
            return False
        return samples.plain_takes(machine, history.letters(thing)) == first
    if kind == "marks":
        return is_telling(told[0], told[1], thing) and len(thing) == told[2]
    return thing == () and plain_so(claim)


def plain_against(claim, thing):
    """Tell whether thing is a PAPER against a CLAIM."""
    kind, *told = claim
    if kind == "alike":
        many = len(told[0][0][0])
        is_word = all([isinstance(own, int) and 1 <= own <= many for own in thing])
        return is_word and samples.plain_takes(told[0], thing) != samples.plain_takes(told[1], thing)
    if kind == "free":
        many = len(told[0][0][0])
        if len(thing) != 2 or not all([isinstance(own, int) and 1 <= own <= many for own in thing]):
            return False
        return doing(told[0], thing) != doing(told[0], thing[::-1])
    if kind == "lawful":
        return is_breach(told[0], thing)
    if kind == "marks":
        return is_marks_table(told[0], told[1], thing) and all([len(own) < told[2] for own in thing])
    return thing == () and not plain_so(claim)


class ClaimsTest(unittest.TestCase):
    def test_of_each_kind(self):
        for claim in CLAIMS:
            self.assertIs(is_claim(claim), True, claim)

    def test_what_is_spoilt(self):
        for claim in (
            ("alike", samples.ODD, samples.FOURS),
            ("free", samples.BEGINS),
            ("lawful", samples.LAST),
            ("led", samples.LAST, MEET[:2], 0),
            ("led", samples.ODD, (), 3),
            ("held", (LATEST, LATEST), samples.LAST, CROSS),
            ("held", (LEAD, HEAR), samples.ODD, ()),
            ("marks", samples.SPINS, 1, 3),
        ):
            check_no_things(self, is_claim, claim)

    def test_what_is_none(self):
        odd, last, spins = samples.ODD, samples.LAST, samples.SPINS
        for thing in (
            (),
            ((),),
            ("alike", odd),
            ("alike", odd, last),
            ("alike", odd, odd, odd),
            ("free",),
            ("free", odd, odd),
            ("Free", odd),
            ("", odd),
            ("lawfully", odd),
            (odd, "free"),
            "free",
            ("free", "lawful"),
            ["free", odd],
            (["free"], odd),
            (("free",), odd),
            (None, odd),
            (1, odd),
            (True, odd),
            ("led", odd, ((0, 2),), 0),
            ("led", odd, ((0, 0),), 0),
            ("led", odd, ((0, 1),), -1),
            ("led", odd, ((0, 1),), True),
            ("led", odd, ((0, 1),)),
            ("held", (COUNT, COUNT), odd, ((0, 1),)),
            ("held", (COUNT, COUNT), last, ()),
            ("held", (COUNT, COUNT), odd, ((0, 2), (1, 0))),
            ("held", (LEAD, LEAD), odd, ()),
            ("held", (COUNT,), odd, ()),
            ("held", odd, (COUNT, COUNT), ()),
            ("held", (COUNT, COUNT), odd),
            ("marks", spins, 1, 0),
            ("marks", spins, 3, 1),
            ("marks", spins, 0, 1),
            ("marks", spins, 1, True),
            ("marks", spins, True, 1),
            ("marks", samples.BEGINS, 1, 1),
            ("marks", last, 1, 1),
            ("marks", samples.LIGHT, 1, 1),
            ("marks", spins, 1),
        ):
            self.assertIs(is_claim(thing), False, thing)
            self.check_unfit(thing)

    def check_unfit(self, thing):
        """Lists may be passed for tuples: what is none even so raises Unfit, whatever else is passed."""
        if isinstance(thing, tuple) and not (len(thing) > 0 and isinstance(thing[0], (list, tuple))):
            good = ("free", samples.ODD)
            for call in (is_so, paper):
                self.assertRaises(Unfit, call, thing)
            for other in ((), None, [], "x"):
                self.assertRaises(Unfit, is_paper_for, thing, other)
                self.assertRaises(Unfit, is_paper_against, thing, other)
            for above in (("free", samples.ABOVE_48[0]), ("free", samples.LAST)):
                self.assertRaises(Unfit, verdicts, (above, thing), ((), ()))
                self.assertRaises(Unfit, verdicts, (above, thing), ())
                self.assertRaises(Unfit, first_false, (above, good, thing))
                self.assertRaises(Unfit, comes_of, good, (good, thing))
                self.assertRaises(Unfit, comes_of, thing, (above,))

    def test_groups_that_are_not_least_and_great_ones(self):
        twice = (((1, 3), (0, 2), (5, 1), (1, 0), (3, 2), (2, 4)), (0, 3))
        self.assertIs(is_claim(("marks", twice, 2, 1)), True)
        self.assertIs(is_so(("marks", twice, 1, 3)), True)
        # It is not asked how many DOINGS there are.
        self.assertIs(is_claim(("marks", samples.ABOVE_48[2], 1, 1)), True)
        self.assertIs(is_claim(("marks", samples.ABOVE_48[3], 1, 1)), False)
        many = 300
        turning = (tuple([((own + 1) % many, (own + 2) % many) for own in range(many)]), (0,))
        self.assertIs(is_claim(("marks", turning, 2, 10**40)), True)
        self.assertIs(is_claim(("led", turning, ((0, 1), (1, 0)) * 20000, 1)), True)
        self.assertIs(is_claim(("held", (STUCK, STUCK), samples.LONE, ((0, 1), (1, 0)) * 20000)), True)


class SoTest(unittest.TestCase):
    def test_beside_plain_searches(self):
        for kind, claims in KINDS.items():
            told = {True: 0, False: 0}
            for claim in claims:
                held = plain_so(claim)
                self.assertIs(is_so(claim), held, claim)
                told[held] += 1
            self.assertGreater(min(told.values()), 3, kind)

    def test_papers_are_such(self):
        """A CLAIM that is so has PAPERS for it alone, any other against it alone."""
        for claim in CLAIMS:
            told = paper(claim)
            held = is_so(claim)
            self.assertIsInstance(told, tuple)
            self.assertIs(is_paper_for(claim, told), held, claim)
            self.assertIs(is_paper_against(claim, told), not held, claim)
            self.assertEqual(verdicts((claim,), (told,)), ["for" if held else "against"])
            self.assertIs(plain_for(claim, told), held, claim)
            self.assertIs(plain_against(claim, told), not held, claim)

    def test_many_things_beside_the_document(self):
        words = list(samples.words_to(2, 2))
        things = words + list(itertools.permutations(range(3))) + [(0,), (1, 0), (1, 0, 3, 2), (1, 0, 2, 3)]
        things += [(one,) for one in words] + [pair for pair in itertools.product(words, repeat=2)][::3]
        things += [((), (1,), (2,), ()), ((), (2,), (1,), ()), ((1,), (1, 1), (2,), ())]
        things += [((0, 1, 2),) * 3, ((0, 1),) * 2, ((0,), (1,)), ((1,), (0,)), ((0,),), ((1, 2), (0, 2), (0, 1))]
        found = {"for": 0, "against": 0, "none": 0}
        for kind, claims in KINDS.items():
            for claim in claims[:: max(1, len(claims) // 25)]:
                for thing in things:
                    is_for, is_against = plain_for(claim, thing), plain_against(claim, thing)
                    self.assertFalse(is_for and is_against)
                    self.assertIs(is_paper_for(claim, thing), is_for, (claim, thing))
                    self.assertIs(is_paper_against(claim, thing), is_against, (claim, thing))
                    told = "for" if is_for else "against" if is_against else "none"
                    self.assertEqual(verdicts((claim,), [thing]), [told])
                    found[told] += 1
        self.assertGreater(min(found.values()), 100)

    def test_things(self):
        """What a PAPER is made of must be just such: no lists, no True for numbers."""
        good = (
            (("alike", samples.LAST, samples.BEGINS), (1, 2)),
            (("free", samples.SPINS), (2, 1)),
            (("lawful", samples.LAST), ((2,), (1,), (2, 2), ())),
            (("led", samples.BEGINS, CROSS, 1), (0, 1)),
            (("held", (COUNT, COUNT), samples.ODD, ((0, 1), (1, 1), (0, 0), (1, 0))), (1, 0)),
            (("marks", samples.SPINS, 1, 4), ((0, 1, 2),) * 3),
            (("marks", samples.SPINS, 1, 3), ((), (2,), (1, 2))),
        )
        for claim, thing in good:
            call = is_paper_for if is_so(claim) else is_paper_against
            if claim[0] == "alike":
                # Another WORD may part both: what is spoilt there is none as soon as it is no WORD.
                check_no_things(self, lambda own: call(claim, own) and own != (1,), thing)
            else:
                check_no_things(self, lambda own: call(claim, own), thing)
        for claim in CLAIMS[::40]:
            for thing in samples.ODD_THINGS + list(nests()) + list(spoilt((0, 1))):
                if not isinstance(thing, tuple):
                    self.assertIs(is_paper_for(claim, thing), False)
                    self.assertIs(is_paper_against(claim, thing), False)

    def test_nothing_is_a_tuple(self):
        for claim in (("free", samples.ODD), ("lawful", samples.ODD), ("alike", samples.ODD, samples.FOURS)):
            for thing in ([], None, 0, False, "", ((),)):
                self.assertIs(is_paper_for(claim, thing), False)
            self.assertIs(is_paper_for(claim, ()), True)

    def test_the_run_of_no_event(self):
        self.assertEqual(paper(("led", samples.LAST, (), 0)), ())
        self.assertEqual(
            verdicts((("led", samples.LAST, (), 0), ("led", samples.LAST, (), 1)), ((), ())), ["for", "against"]
        )
        pair = (LATEST, LATEST)
        never, always = samples.LAST, (samples.LAST[0], (0,))
        self.assertEqual(
            verdicts((("held", pair, never, ()), ("held", pair, always, ())), ((), ())), ["for", "against"]
        )

    def test_states_are_those_of_the_least(self):
        # By TWICE, which has STATES told twice, WORDS that end on 1 lead to STATE 1 of LAST, the least one alike.
        for state in range(5):
            claim = ("led", samples.TWICE, ((0, 1), (1, 0)), state)
            self.assertIs(is_so(claim), state == 1)
            self.assertIs(is_paper_for(claim, (0,)), state == 1)


class VerdictsTest(unittest.TestCase):
    def test_each_at_its_place(self):
        claims = (
            ("free", samples.ODD),
            ("free", samples.LAST),
            ("lawful", samples.LAST),
            ("alike", samples.ODD, samples.FOURS),
        )
        self.assertEqual(verdicts(claims, ((), (1, 2), (), ())), ["for", "against", "none", "for"])
        self.assertEqual(verdicts(claims, [(), [1, 2], None, []]), ["for", "none", "none", "none"])
        self.assertEqual(verdicts((), ()), [])
        self.assertEqual(verdicts([], []), [])

    def test_unlike_many(self):
        claim = ("free", samples.ODD)
        for claims, things in (
            ((claim,), ()),
            ((), ((),)),
            ((claim,), ((), ())),
            ((("free", samples.ABOVE_48[0]),), ()),
        ):
            self.assertRaises(Unfit, verdicts, claims, things)

    def test_first_false(self):
        good, bad, above = ("free", samples.ODD), ("free", samples.LAST), ("lawful", samples.ABOVE_48[0])
        self.assertIsNone(first_false(()))
        self.assertIsNone(first_false((good, good)))
        self.assertEqual(first_false((good, bad, bad)), 1)
        self.assertEqual(first_false((bad, good)), 0)
        # None behind the first one is asked, but all must be CLAIMS.
        self.assertEqual(first_false((good, bad, above)), 1)
        self.assertRaises(TooMuch, first_false, (good, above, bad))
        self.assertRaises(Unfit, first_false, (bad, above, ("free",)))

    def test_too_much(self):
        for machine in samples.ABOVE_48:
            claims = [("free", machine), ("lawful", machine)]
            if machine == samples.ABOVE_48[2]:
                claims.append(("marks", machine, 1, 1))
            for claim in claims:
                for call in (is_so, paper):
                    self.assertRaises(TooMuch, call, claim)
                for thing in ((), None, [], (1, 2), "x"):
                    self.assertRaises(TooMuch, is_paper_for, claim, thing)
                    self.assertRaises(TooMuch, is_paper_against, claim, thing)
                    self.assertRaises(TooMuch, verdicts, (("free", samples.ODD), claim), ((), thing))
                self.assertIs(comes_of(claim, (claim,)), True)
            # The others are asked all the same.
            many = len(machine[0][0])
            never = ((False,), (((0, 0),) * many,), (((0,) * 1,) * many,))
            self.assertIs(is_so(("alike", machine, machine)), True)
            self.assertIs(is_so(("led", machine, ((0, 1),), least(machine)[0][0][0])), True)
            self.assertIs(is_so(("held", (never, never), machine, ())), 0 not in machine[1])

    def test_just_48(self):
        for machine in samples.JUST_48:
            self.assertIs(is_so(("lawful", machine)), is_lawful(machine))
        self.assertEqual(paper(("marks", samples.CUBE, 1, 9)), states_led(samples.CUBE, 1))


class ComesOfTest(unittest.TestCase):
    def closure(self, given, every):
        """Go on by the rules of the document, one by one, within all CLAIMS of every."""
        found = list(given)
        while True:
            further = []
            for one in found:
                if one[0] == "free":
                    further.append(("lawful", one[1]))
                if one[0] == "marks":
                    further.extend([one[:3] + (many,) for many in range(1, one[3])])
                if one[0] == "alike":
                    further.append(("alike", one[2], one[1]))
                    for other in found:
                        if other[0] == "alike" and other[1] == one[2]:
                            further.append(("alike", one[1], other[2]))
                        place = 2 if other[0] == "held" else 1
                        if other[0] != "alike" and other[place] == one[1]:
                            further.append(other[:place] + (one[2],) + other[place + 1 :])
            new = [own for at, own in enumerate(further) if own in every and own not in found + further[:at]]
            if not new:
                return found
            found = found + new

    def test_beside_the_rules(self):
        # Whether CLAIMS are so makes no difference. THREE has two letters, too, and is no group's.
        machines = [samples.SPINS, samples.WHEEL, samples.TWO_ODD]
        every = [("alike", one, other) for one in machines for other in machines]
        for own in machines:
            every += [("free", own), ("lawful", own), ("marks", own, 1, 1), ("marks", own, 1, 2), ("marks", own, 2, 1)]
            every += [("led", own, CROSS, 0), ("led", own, CROSS, 1), ("held", BOTH_BARE[1], own, CROSS)]
        told = {True: 0, False: 0}
        some = [()] + [(own,) for own in every] + list(itertools.combinations(every, 2))[::3]
        some += [every[at : at + 5 : 2] + every[-at : -at - 9 : -4] for at in range(1, 20)]
        for given in some:
            found = self.closure(given, every)
            for claim in every:
                self.assertIs(comes_of(claim, tuple(given)), claim in found, (claim, given))
                told[claim in found] += 1
        self.assertGreater(min(told.values()), 500)

    def test_of_nothing(self):
        for claim in CLAIMS[::25]:
            self.assertIs(comes_of(claim, ()), False)
            self.assertIs(comes_of(claim, (claim,)), True)
            self.assertIs(comes_of(claim, [("free", samples.NEVER), claim]), True)

    def test_alike(self):
        one, other, third = samples.ODD, samples.FOURS, (((0,),), (0,))
        self.assertIs(comes_of(("alike", one, one), ()), False)
        self.assertIs(comes_of(("alike", one, one), (("free", one),)), False)
        self.assertIs(comes_of(("alike", one, one), (("alike", other, one),)), True)
        self.assertIs(comes_of(("alike", third, one), (("alike", one, other), ("alike", third, other))), True)
        self.assertIs(comes_of(("alike", third, third), (("alike", one, other),)), False)
        self.assertIs(comes_of(("free", third), (("alike", one, other), ("alike", third, other), ("free", one))), True)
        self.assertIs(comes_of(("lawful", third), (("alike", one, third), ("free", one))), True)
        self.assertIs(comes_of(("free", third), (("alike", one, third), ("lawful", one))), False)
        self.assertIs(comes_of(("free", one), (("alike", one, third), ("free", other))), False)

    def test_through_a_machine_that_is_no_groups(self):
        # CLAIMS need not be so: BEGINS is no group's, and yet the ends of the chain are.
        chain = (("alike", samples.SPINS, samples.BEGINS), ("alike", samples.BEGINS, samples.WHEEL))
        self.assertIs(comes_of(("marks", samples.WHEEL, 2, 1), chain + (("marks", samples.SPINS, 2, 3),)), True)
        self.assertIs(comes_of(("marks", samples.WHEEL, 2, 4), chain + (("marks", samples.SPINS, 2, 3),)), False)
        self.assertIs(comes_of(("marks", samples.WHEEL, 1, 1), chain + (("marks", samples.SPINS, 2, 3),)), False)

    def test_what_is_like_it_else(self):
        one, other = samples.ODD, samples.FOURS
        link = ("alike", other, one)
        run = ((0, 1), (1, 0))
        self.assertIs(comes_of(("led", one, run, 1), (link, ("led", other, run, 1))), True)
        self.assertIs(comes_of(("led", one, run, 0), (link, ("led", other, run, 1))), False)
        self.assertIs(comes_of(("led", one, (), 1), (link, ("led", other, run, 1))), False)
        self.assertIs(comes_of(("held", (COUNT, COUNT), one, run), (link, ("held", (COUNT, COUNT), other, run))), True)
        self.assertIs(comes_of(("held", (STUCK, COUNT), one, run), (link, ("held", (COUNT, COUNT), other, run))), False)
        self.assertIs(comes_of(("marks", one, 1, 10**20), (link, ("marks", other, 1, 10**30))), True)


class CallsTest(unittest.TestCase):
    def test_lists_names_and_nothing_changed(self):
        claims = [row[at] for row in KINDS.values() for at in (0, len(row) // 2, -1)] + [("free", samples.ABOVE_48[0])]
        claims.append(("marks", samples.BEGINS, 1, 1))
        for claim in claims:
            check_calls(self, is_so, claim)
            check_calls(self, paper, claim)
            for thing in ((), [], (1, 2), (0, 1), None):
                check_calls(self, is_paper_for, claim, thing)
                check_calls(self, is_paper_against, claim, thing)
            check_calls(self, first_false, (claim, claim))
            check_calls(self, comes_of, claim, (claims[0], claim))
        good = tuple(claims[:6])
        check_calls(self, first_false, good)
        check_calls(self, comes_of, good[0], good[1:])

    def test_things_are_told_as_they_are(self):
        claims = (("free", samples.ODD), ("led", samples.BEGINS, CROSS, 1))
        for given in (claims, [list(own) for own in claims], samples.listed(claims)):
            for things in (((), (0, 1)), [(), (0, 1)]):
                self.assertEqual(verdicts(given, things), ["for", "for"])
                self.assertEqual(verdicts(things=things, claims=given), ["for", "for"])
            self.assertEqual(verdicts(given, ([], [0, 1])), ["none", "none"])
        told = verdicts(claims, ((), ()))
        told.append(None)
        self.assertEqual(verdicts(claims, ((), ())), ["for", "none"])


if __name__ == "__main__":
    unittest.main()
