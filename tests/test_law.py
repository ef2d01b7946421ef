"""[3] and [12]: what is lawful, what breaks the law, what kind a MACHINE is of."""

import unittest

import samples
from calls import check_calls, check_no_things
from bothroads.doings import commutes, doing, doings, halting, product
from bothroads.errors import CanNot, TooMuch
from bothroads.law import breach, broken, is_breach, is_lawful, kind
from bothroads.machines import letters_in

DRAWN = [
    own for own in samples.drawn_machines(90, 71, states=3) if len(samples.plain_doings(samples.plain_least(own))) < 20
]
MACHINES = samples.ALL + DRAWN + samples.JUST_48
LAWLESS = samples.LAWLESS + samples.UNTIDY[:1] + [own for own in DRAWN if not is_lawful(own)]
LAWFUL = samples.FREE + samples.LAWFUL + samples.GROUPS + samples.UNTIDY[1:] + [own for own in DRAWN if is_lawful(own)]


def plain_is_breach(machine, ahead, word, between, behind):
    small = samples.plain_least(machine)
    once = samples.plain_doing(small, word)
    without = ahead + word + between + behind
    twice = ahead + word + between + word + behind
    return samples.plain_doing(small, word + word) == once and samples.plain_takes(machine, without) != samples.plain_takes(
        machine, twice
    )


def plain_breach(machine, longest):
    """Search short WORDS for the first one that halts and some letter behind it that it does not come through."""
    small = samples.plain_least(machine)
    for word in samples.words_to(longest, len(small[0][0])):
        if samples.plain_doing(small, word + word) == samples.plain_doing(small, word):
            for letter in range(1, len(small[0][0]) + 1):
                one, other = word + (letter,), word + (letter,) + word
                if samples.plain_doing(small, one) != samples.plain_doing(small, other):
                    ahead, behind = samples.plain_surroundings(machine, one, other, longest)
                    return ahead, word, (letter,), behind
    return None


class LawfulTest(unittest.TestCase):
    def test_as_the_document_tells_for_all_doings(self):
        told = []
        for machine in MACHINES:
            every = doings(machine)
            held = all([product(product(e, b), e) == product(e, b) for e in halting(machine) for b in every])
            self.assertIs(is_lawful(machine), held, machine)
            told.append(held)
        self.assertGreater(min(told.count(True), told.count(False)), 10)

    def test_broken_beside_all_letters(self):
        for machine in MACHINES:
            pairs = []
            for e in halting(machine):
                for letter in range(1, letters_in(machine) + 1):
                    b = doing(machine, (letter,))
                    if product(product(e, b), e) != product(e, b):
                        pairs.append((e, letter))
            self.assertEqual(broken(machine), tuple(sorted(pairs)))
            self.assertEqual(broken(machine) == (), is_lawful(machine))

    def test_kinds_of_samples(self):
        for machine in samples.FREE + samples.UNTIDY[1:]:
            self.assertEqual(kind(machine), "none")
        for machine in samples.LAWFUL + samples.GROUPS:
            self.assertEqual(kind(machine), "one")
        for machine in samples.LAWLESS + samples.UNTIDY[:1]:
            self.assertEqual(kind(machine), "both")

    def test_kind_beside_what_commutes_and_is_lawful(self):
        for machine in MACHINES:
            plain = "none" if commutes(machine) else "one" if is_lawful(machine) else "both"
            self.assertEqual(kind(machine), plain)

    def test_what_commutes_and_what_is_a_groups_is_lawful(self):
        for machine in MACHINES:
            if commutes(machine) or len(halting(machine)) == 1:
                self.assertIs(is_lawful(machine), True)

    def test_one_state(self):
        for machine in (samples.LONE, samples.NEVER, (((0, 1), (1, 0)), ())):
            self.assertEqual((is_lawful(machine), broken(machine), kind(machine)), (True, (), "none"))

    def test_of_the_least_machine(self):
        self.assertEqual(broken(samples.TWICE), broken(samples.LAST))
        self.assertEqual(breach(samples.TWICE), breach(samples.LAST))
        self.assertEqual(kind(samples.TWICE), "both")

    def test_a_lock(self):
        self.assertEqual(kind(samples.LOCK), "both")


class BreachTest(unittest.TestCase):
    def test_beside_a_plain_search(self):
        for machine in LAWLESS:
            self.assertEqual(breach(machine), plain_breach(machine, 4), machine)
        self.assertGreater(len(LAWLESS), 15)

    def test_it_is_one(self):
        for machine in LAWLESS + samples.JUST_48[:2]:
            if not is_lawful(machine):
                self.assertIs(is_breach(machine, breach(machine)), True)

    def test_none_if_lawful(self):
        for machine in LAWFUL + samples.JUST_48[2:]:
            self.assertRaises(CanNot, breach, machine)

    def test_short_ones_beside_what_is_taken(self):
        found = 0
        for machine in LAWLESS[:6] + LAWFUL[:12] + samples.GROUPS:
            words = list(samples.words_to(1 if letters_in(machine) == 3 else 2, letters_in(machine)))
            for word in words:
                for between in words:
                    for ahead in words[:3]:
                        for behind in words[:3]:
                            plain = plain_is_breach(machine, ahead, word, between, behind)
                            self.assertIs(is_breach(machine, (ahead, word, between, behind)), plain)
                            found += plain
                            if plain:
                                self.assertNotIn(machine, LAWFUL)
        self.assertGreater(found, 50)

    def test_the_shortest_word_goes_ahead_of_the_least(self):
        # (2,) is shorter than (1, 1), though greater; both stand in pairs that are broken.
        words = {}
        for machine in LAWLESS:
            told = breach(machine)[1]
            words.setdefault(len(told), []).append(machine)
        self.assertGreater(len(words), 1)

    def test_things(self):
        for machine, good in (
            (samples.LAST, ((2,), (1,), (2, 2), ())),
            (samples.IN_TURN, ((), (2,), (2, 1), ())),
        ):
            check_no_things(self, lambda thing: is_breach(machine, thing), good)
        for thing in (
            (),
            ((), (1,), (2,)),
            ((), (1,), (2,), (), ()),
            ((), (), (1,), ()),
            ((), (1,), (), ()),
            ((), (1,), (3,), ()),
            ((3,), (1,), (2,), ()),
            ((), (1,), (2,), (3,)),
            ((), (1, 3), (2,), ()),
            ((), (0,), (2,), ()),
            ((), (True,), (2,), ()),
            ((), (1,), (2,), []),
            ((), 1, 2, ()),
        ):
            self.assertIs(is_breach(samples.LAST, thing), False, thing)
        self.assertIs(is_breach(samples.LAST, ((1, 2) * 20000, (2, 1) * 20000, (2,) * 20000, ())), True)
        self.assertIs(is_breach(samples.LAST, ((), (1,), (2,), (1,) * 20000)), False)

    def test_a_word_that_does_not_halt(self):
        # By IN_TURN letter 1 does not halt, (1, 2) does.
        for machine in LAWLESS:
            for word in samples.words_to(2, letters_in(machine)):
                once = doing(machine, word)
                if product(once, once) != once:
                    for between in samples.words_to(2, letters_in(machine)):
                        self.assertIs(is_breach(machine, ((), word, between, ())), False)


class ChecksTest(unittest.TestCase):
    def test_too_much_ahead_of_all(self):
        for machine in samples.ABOVE_48:
            for call in (is_lawful, broken, breach, kind):
                self.assertRaises(TooMuch, call, machine)
            for thing in (((), (1,), (2,), ()), None, (), [], "x", ((9,), (9,), (9,), (9,))):
                self.assertRaises(TooMuch, is_breach, machine, thing)

    def test_just_48(self):
        for machine in samples.JUST_48:
            self.assertIn(kind(machine), ("none", "one", "both"))
            self.assertIn(is_breach(machine, ((), (1,), (1,), ())), (True, False))
        self.assertEqual([kind(own) for own in samples.JUST_48[2:]], ["none", "one"])


class CallsTest(unittest.TestCase):
    def test_lists_names_and_nothing_changed(self):
        for machine in [samples.ODD, samples.BEGINS, samples.SPINS, samples.ABOVE_48[0]] + LAWLESS[:5]:
            for call in (is_lawful, broken, breach, kind):
                check_calls(self, call, machine)
            for thing in (((), (1,), (2,), ()), ((), (1,), (2, 1), ()), [(), (1,), (2,), ()], ((), [1], (2,), ()), None):
                check_calls(self, is_breach, machine, thing)


if __name__ == "__main__":
    unittest.main()
