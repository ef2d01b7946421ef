"""[3] and [4]: WORDS, MACHINES, the least ones, what parts two."""

import copy
import unittest

import samples
from bothroads.errors import NoPlace, Unfit
from bothroads.machines import (
    are_alike,
    is_machine,
    is_word,
    least,
    letters_in,
    parting_word,
    state_behind,
    takes,
)


def plain_parting_word(one, other, longest):
    for word in samples.words_to(longest, len(one[0][0])):
        if samples.plain_takes(one, word) != samples.plain_takes(other, word):
            return word
    return None


def pairs_of_as_many_letters(machines):
    return [(one, other) for one in machines for other in machines if len(one[0][0]) == len(other[0][0])]


class ThingsTest(unittest.TestCase):
    def test_words(self):
        for thing in ((), (1,), (3, 1, 2), (1,) * 61, (99,), (10 ** 400, 1), tuple(range(1, 50000))):
            self.assertIs(is_word(thing), True)

    def test_no_words(self):
        wrong = [(0,), (-1,), (1, 0), (0, 1), (1, -1), (True,), (1, True), (1, None), (1, "1"), (1, (1,)), (1, [1]), [1, 2]]
        for thing in wrong + samples.ODD_THINGS:
            self.assertIs(is_word(thing), False, thing)
        self.assertIs(is_word(tuple(range(50000))), False)

    def test_machines(self):
        for thing in samples.ALL + samples.JUST_48 + samples.ABOVE_48 + samples.drawn_machines(40, 1):
            self.assertIs(is_machine(thing), True, thing)
        self.assertIs(is_machine((((0,),), ())), True)
        self.assertIs(is_machine((((0,) * 9,), (0,))), True)
        many = 3000
        self.assertIs(is_machine((tuple([(0, own, many - 1) for own in range(many)]), tuple(range(many)))), True)

    def test_no_machines(self):
        wrong = [
            (),
            ((),),
            ((), ()),
            (((),), ()),
            (((), ()), (0,)),
            (((0,),),),
            (((0,),), (), ()),
            (((1,),), ()),
            (((-1,),), ()),
            (((0,), (2,)), ()),
            (((0,), (0, 0)), ()),
            (((0, 0), (0,)), ()),
            (((0,), ()), ()),
            (((0,),), (1,)),
            (((0,),), (-1,)),
            (((0,),), (0, 0)),
            (((0,), (1,)), (1, 0)),
            (((0,), (1,)), (0, 0, 1)),
            (((0,), (1,)), (0, 2)),
            (((False,),), ()),
            (((0,), (True,)), ()),
            (((0,),), (False,)),
            (((0,), (1,)), (0, True)),
            (((None,),), ()),
            ((("0",),), ()),
            ((((0,),),), ()),
            (((0,),), None),
            (((0,),), 0),
            (((0,),), "0"),
            (((0,),), ("0",)),
            (((0,),), ((0,),)),
            ((0,), ()),
            (0, ()),
            ("0", ()),
            (("0",), ()),
            "ab",
            {},
        ]
        for thing in wrong + samples.ODD_THINGS:
            self.assertIs(is_machine(thing), False, thing)

    def test_lists_are_no_tuples_in_a_thing(self):
        steps, ends = samples.LAST
        for thing in ([steps, ends], (list(steps), ends), ((list(steps[0]), steps[1]), ends), (steps, list(ends)), [[[0]], []]):
            self.assertIs(is_machine(thing), False, thing)

    def test_deep_nests(self):
        for made in (tuple, list):
            for deep in (1, 2, 3, 50, 99):
                nest = samples.nested(made, deep)
                self.assertIs(is_word(nest), False)
                self.assertIs(is_machine(nest), False)
                self.assertIs(is_machine((nest, ())), False)
                self.assertIs(is_machine((((0,),), nest)), False)
                self.assertIs(is_machine((((nest,),), ())), False)
                self.assertIs(is_word((1, nest)), False)


class WalkingTest(unittest.TestCase):
    def test_the_first_letter_goes_first(self):
        machine = (((1, 0), (1, 2), (2, 2)), (2,))
        self.assertEqual(state_behind(machine, (1, 2)), 2)
        self.assertEqual(state_behind(machine, (2, 1)), 1)
        self.assertIs(takes(machine, (1, 2)), True)
        self.assertIs(takes(machine, (2, 1)), False)

    def test_states_and_taking_as_told_by_plain_steps(self):
        for machine in samples.ALL:
            letters = len(machine[0][0])
            self.assertEqual(letters_in(machine), letters)
            for word in samples.words_to(4, letters):
                self.assertEqual(state_behind(machine, word), samples.plain_state(machine, word))
                self.assertIs(takes(machine, word), samples.plain_takes(machine, word))

    def test_the_state_is_one_of_the_machine_itself(self):
        self.assertEqual(state_behind(samples.FOURS, (1, 1, 1)), 3)
        self.assertEqual(state_behind(samples.TWICE, (1, 2, 2)), 1)

    def test_the_empty_word(self):
        for machine in samples.ALL:
            self.assertEqual(state_behind(machine, ()), 0)
            self.assertIs(takes(machine, ()), 0 in machine[1])

    def test_long_words(self):
        self.assertIs(takes(samples.ODD, (1,) * 60), False)
        self.assertIs(takes(samples.ODD, (1,) * 5001), True)

    def test_the_first_letter_that_is_not_there_is_told(self):
        for call in (state_behind, takes):
            for word, letter in (((3,), 3), ((1, 2, 4, 3), 4), ((9, 3), 9), ((1,) * 59 + (3,), 3)):
                with self.assertRaises(NoPlace) as caught:
                    call(samples.LAST, word)
                self.assertEqual(caught.exception.place, letter)
        with self.assertRaises(NoPlace) as caught:
            takes(samples.LONE, (1, 2))
        self.assertEqual(caught.exception.place, 2)


class LeastTest(unittest.TestCase):
    def test_as_numbered_by_plain_search(self):
        for machine in samples.ALL + samples.drawn_machines(60, 2, states=4, letters=2):
            self.assertEqual(least(machine), samples.plain_least(machine), machine)

    def test_all_small_machines(self):
        for states, letters in ((1, 1), (1, 2), (1, 3), (2, 1), (2, 2), (3, 1)):
            for machine in samples.every_machine(states, letters):
                self.assertEqual(least(machine), samples.plain_least(machine), machine)

    def test_states_are_numbered_as_they_are_first_come_to(self):
        self.assertEqual(least((((2, 1), (1, 1), (2, 1)), (1,))), (((0, 1), (1, 1)), (1,)))
        # Letter 1 leads to STATE 2, letter 2 to STATE 1: what letter 1 comes to is numbered first.
        self.assertEqual(least((((2, 1), (1, 1), (0, 2)), (1,))), (((1, 2), (0, 1), (2, 2)), (2,)))
        # All that one letter comes to is numbered ahead of what two come to.
        self.assertEqual(
            least((((3, 1), (1, 1), (2, 0), (2, 3)), (1, 2))), (((1, 2), (3, 1), (2, 2), (3, 0)), (2, 3))
        )

    def test_states_told_twice_and_states_not_come_to(self):
        self.assertEqual(least(samples.TWICE), samples.LAST)
        self.assertEqual(least(samples.UNCOME), (((0, 1), (1, 0)), (1,)))
        self.assertEqual(least((((0,), (0,)), (0, 1))), (((0,),), (0,)))

    def test_no_ends_and_nothing_but_ends(self):
        for letters in (1, 2, 3):
            steps = tuple([((own + 1) % 3,) * letters for own in range(3)])
            self.assertEqual(least((steps, ())), (((0,) * letters,), ()))
            self.assertEqual(least((steps, (0, 1, 2))), (((0,) * letters,), (0,)))

    def test_twelve_states(self):
        ring = tuple([((own + 1) % 12, own) for own in range(12)])
        self.assertEqual(least((ring, (5,))), (ring, (5,)))
        self.assertEqual(least((ring, (1, 4, 7, 10))), (((1, 0), (2, 1), (0, 2)), (1,)))
        line = tuple([(min(own + 1, 11), 0) for own in range(12)])
        self.assertEqual(least((line, (11,))), (line, (11,)))

    def test_guarantees(self):
        machines = samples.ALL + samples.drawn_machines(40, 3)
        for machine in machines:
            small = least(machine)
            self.assertIs(is_machine(small), True)
            self.assertIs(are_alike(machine, small), True)
            self.assertEqual(least(small), small)
        for one, other in pairs_of_as_many_letters(machines):
            self.assertEqual(least(one) == least(other), are_alike(one, other))

    def test_no_alike_machine_has_fewer_states(self):
        for machine in samples.ALL:
            small = least(machine)
            letters = len(small[0][0])
            if len(small[0]) <= 3 and letters <= 2:
                for states in range(1, len(small[0])):
                    for other in samples.every_machine(states, letters):
                        self.assertIs(are_alike(small, other), False)


class PartingTest(unittest.TestCase):
    def test_beside_a_plain_search(self):
        drawn = samples.drawn_machines(30, 4, states=3, letters=2)
        for one, other in pairs_of_as_many_letters(samples.ALL + drawn):
            # Less letters than both have STATES in all part two that are not alike.
            if len(one[0][0]) <= 2:
                longest = len(one[0]) + len(other[0]) - 1
                word = plain_parting_word(one, other, longest)
                self.assertEqual(parting_word(one, other), word)
                self.assertIs(are_alike(one, other), word is None)

    def test_three_letters_beside_a_plain_search(self):
        drawn = samples.drawn_machines(60, 5, states=3)
        for one, other in pairs_of_as_many_letters([own for own in drawn if len(own[0][0]) == 3]):
            self.assertEqual(parting_word(one, other), plain_parting_word(one, other, 5))

    def test_the_shortest_goes_ahead_of_the_least(self):
        # (1, 1, 1) is less than (2,), but longer.
        one = (((1, 3), (2, 0), (3, 0), (3, 3)), (3,))
        self.assertEqual(parting_word(one, (((0, 0),), ())), (2,))
        # Of (1, 2) and (2, 1), both short, the least.
        turned = (((1, 2), (0, 3), (3, 0), (3, 3)), (3,))
        self.assertEqual(parting_word(turned, (((0, 0),), ())), (1, 2))

    def test_the_empty_word_may_part(self):
        self.assertEqual(parting_word(samples.LONE, samples.ODD), ())
        self.assertEqual(parting_word((((0,),), ()), samples.LONE), ())

    def test_long_parting_words(self):
        ring = (tuple([((own + 1) % 12,) for own in range(12)]), (11,))
        shorter = (tuple([((own + 1) % 11,) for own in range(11)]), (10,))
        self.assertEqual(parting_word(ring, shorter), (1,) * 10)
        never = (((0,),), ())
        self.assertEqual(parting_word(ring, never), (1,) * 11)
        both = (tuple([(own + 1 if own < 11 else 11,) for own in range(12)]), (10,))
        self.assertEqual(parting_word(both, (both[0], (10, 11))), (1,) * 11)

    def test_one_with_itself(self):
        for machine in samples.ALL:
            self.assertIsNone(parting_word(machine, machine))
            self.assertIs(are_alike(machine, machine), True)

    def test_unlike_many_letters(self):
        for one, other in ((samples.ODD, samples.LAST), (samples.LAST, samples.ODD), (samples.NEVER, samples.SPINS)):
            for call in (are_alike, parting_word):
                with self.assertRaises(Unfit):
                    call(one, other)


class CallsTest(unittest.TestCase):
    def test_lists_for_tuples(self):
        for machine in samples.ALL:
            told = samples.listed(machine)
            mixed = (told[0], machine[1])
            kept = copy.deepcopy(told)
            for own in (told, mixed, [machine[0], told[1]]):
                self.assertEqual(letters_in(own), letters_in(machine))
                self.assertEqual(repr(least(own)), repr(least(machine)))
                self.assertEqual(state_behind(own, [1, 1]), state_behind(machine, (1, 1)))
                self.assertIs(takes(own, [1]), takes(machine, (1,)))
                self.assertIs(are_alike(own, machine), True)
                self.assertIs(are_alike(machine, own), True)
                self.assertIsNone(parting_word(own, machine))
            self.assertEqual(told, kept)
        word = parting_word(samples.listed(samples.BEGINS), samples.listed(samples.LAST))
        self.assertEqual(repr(word), "(1, 2)")

    def test_lists_are_refused_as_tuples_are(self):
        with self.assertRaises(NoPlace) as caught:
            takes(samples.listed(samples.LAST), [1, 5, 3])
        self.assertEqual(caught.exception.place, 5)
        with self.assertRaises(Unfit):
            are_alike(samples.listed(samples.ODD), samples.listed(samples.LAST))

    def test_arguments_by_name(self):
        self.assertIs(is_word(thing=(1,)), True)
        self.assertIs(is_machine(thing=samples.ODD), True)
        self.assertEqual(letters_in(machine=samples.LAST), 2)
        self.assertEqual(state_behind(word=(2, 1), machine=samples.BEGINS), 2)
        self.assertIs(takes(word=(1,), machine=samples.ODD), True)
        self.assertEqual(least(machine=samples.FOURS), samples.ODD)
        self.assertIs(are_alike(other=samples.FOURS, one=samples.ODD), True)
        self.assertEqual(parting_word(other=samples.LAST, one=samples.BEGINS), (1, 2))

    def test_the_same_call_gives_the_same(self):
        for machine in samples.ALL:
            self.assertEqual(least(machine), least(machine))


if __name__ == "__main__":
    unittest.main()
