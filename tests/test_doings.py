"""[3] and [5]: DOINGS, what halts, what commutes, SURROUNDINGS."""

import copy
import unittest

import samples
from bothroads.doings import (
    commutes,
    crossed,
    doing,
    doings,
    halted,
    halting,
    is_doing,
    is_surroundings,
    product,
    surroundings,
    word_for,
)
from bothroads.errors import CanNot, NoPlace, TooMuch, Unfit
from bothroads.machines import least

DRAWN = [own for own in samples.drawn_machines(80, 6, states=3) if len(samples.plain_doings(samples.plain_least(own))) < 13]
# All but those of 48 DOINGS, for what goes through pairs of them and through many WORDS.
FEW = [own for own in samples.ALL if own is not samples.CUBE] + DRAWN
# No DOINGS by LAST, whose DOINGS are (0, 0), (0, 1), (1, 1).
NO_DOINGS = [(1, 0), (0,), (), (0, 0, 0), (2, 2), (-1, 0), (False, False), (0, True), (0, None), (0, "1"), ((0, 1),), ((0,), 1)]


def made_lists(things):
    return [samples.listed(own) for own in things]


class DoingTest(unittest.TestCase):
    def test_where_the_word_leads_each_state_of_the_least(self):
        for machine in samples.ALL:
            small = samples.plain_least(machine)
            for word in samples.words_to(4, len(machine[0][0])):
                self.assertEqual(doing(machine, word), samples.plain_doing(small, word))

    def test_of_the_least_not_of_the_machine(self):
        self.assertEqual(doing(samples.FOURS, (1,)), (1, 0))
        self.assertEqual(doing(samples.TWICE, (2,)), (0, 0))
        self.assertEqual(doing(samples.UNCOME, ()), (0, 1))
        self.assertEqual(doing((((0, 1), (1, 0)), ()), (2, 1)), (0,))

    def test_one_is_the_doing_of_no_letter(self):
        for machine in samples.ALL:
            self.assertEqual(doing(machine, ()), tuple(range(len(least(machine)[0]))))

    def test_however_many_there_are(self):
        for machine in samples.ABOVE_48:
            self.assertEqual(doing(machine, (1,) * 7), samples.plain_doing(least(machine), (1,) * 7))

    def test_the_first_letter_that_is_not_there_is_told(self):
        for word, letter in (((3,), 3), ((1, 2, 4, 3), 4), ((9, 3), 9)):
            for machine in (samples.LAST, samples.ABOVE_48[0]):
                with self.assertRaises(NoPlace) as caught:
                    doing(machine, word)
                self.assertEqual(caught.exception.place, letter)


class ProductTest(unittest.TestCase):
    def test_of_words_put_together(self):
        for machine in samples.ALL:
            words = list(samples.words_to(2, len(machine[0][0])))
            for one in words:
                for other in words:
                    self.assertEqual(product(doing(machine, one), doing(machine, other)), doing(machine, one + other))

    def test_one_is_done_first(self):
        self.assertEqual(product((1, 1), (0, 0)), (0, 0))
        self.assertEqual(product((1, 0, 2), (0, 0, 1)), (0, 0, 1))
        self.assertEqual(product((0, 0, 1), (1, 0, 2)), (1, 1, 0))

    def test_with_one(self):
        for machine in samples.ALL:
            nothing_done = doing(machine, ())
            for own in doings(machine):
                self.assertEqual(product(own, nothing_done), own)
                self.assertEqual(product(nothing_done, own), own)


class DoingsTest(unittest.TestCase):
    def test_beside_products_of_letters(self):
        for machine in samples.ALL + DRAWN:
            self.assertEqual(doings(machine), tuple(sorted(samples.plain_doings(samples.plain_least(machine)))))

    def test_beside_all_short_words(self):
        for machine in FEW:
            found = samples.words_by_doing(samples.plain_least(machine), 5)
            self.assertTrue(set(found) <= set(doings(machine)))
            for own in found:
                self.assertIs(is_doing(machine, own), True)

    def test_one_state(self):
        for machine in (samples.LONE, samples.NEVER, (((0, 1), (1, 0)), (0, 1))):
            self.assertEqual(doings(machine), ((0,),))

    def test_states_not_come_to_count_for_nothing(self):
        # What is not come to may be led about in very many ways.
        steps = ((0, 0),) + tuple([((own + 1) % 11 + 1, (own * own) % 11 + 1) for own in range(11)])
        self.assertEqual(doings((steps, (0, 1, 5))), ((0,),))

    def test_exactly_48_and_more(self):
        for machine in samples.JUST_48:
            self.assertEqual(len(set(doings(machine))), 48)
            self.assertEqual(len(samples.plain_doings(least(machine))), 48)
        self.assertEqual(len(samples.plain_doings(least(samples.ABOVE_48[2]))), 49)
        for machine in samples.ABOVE_48:
            with self.assertRaises(TooMuch):
                doings(machine)

    def test_is_doing(self):
        for machine in samples.ALL:
            for own in doings(machine):
                self.assertIs(is_doing(machine, own), True)
                self.assertIs(is_doing(machine, list(own)), False)
                self.assertIs(is_doing(machine, own + (0,)), False)
        self.assertIs(is_doing(samples.LAST, (1, 0)), False)

    def test_is_doing_with_wrong_things(self):
        for thing in NO_DOINGS + made_lists(NO_DOINGS) + samples.ODD_THINGS:
            self.assertIs(is_doing(samples.LAST, thing), False, thing)
        for thing in (False, (False,), (False, True), (True, False), (0, True), ("0", "1"), [0, 1], "01"):
            self.assertIs(is_doing(samples.ODD, thing), False, thing)
        self.assertIs(is_doing(samples.LONE, (False,)), False)
        self.assertIs(is_doing(samples.LONE, 0), False)
        self.assertIs(is_doing(samples.ODD, tuple(range(10000))), False)
        self.assertIs(is_doing(samples.ODD, (10 ** 400, 0)), False)
        for made in (tuple, list):
            for deep in (1, 2, 50, 99):
                nest = samples.nested(made, deep)
                self.assertIs(is_doing(samples.ODD, nest), False)
                self.assertIs(is_doing(samples.LONE, (nest,)), False)


class WordForTest(unittest.TestCase):
    def test_beside_a_plain_search(self):
        for machine in FEW:
            for own, words in samples.words_by_doing(samples.plain_least(machine), 5).items():
                self.assertEqual(word_for(machine, own), words[0])

    def test_each_word_has_its_doing(self):
        for machine in samples.ALL + DRAWN + samples.JUST_48:
            for own in doings(machine):
                self.assertEqual(doing(machine, word_for(machine, own)), own)

    def test_long_ones(self):
        ring = samples.JUST_48[2]
        self.assertEqual(word_for(ring, doing(ring, (1,) * 47)), (1,) * 47)
        self.assertEqual(word_for(ring, doing(ring, (1,) * 48)), ())

    def test_what_is_no_doing(self):
        for own in NO_DOINGS + made_lists(NO_DOINGS):
            with self.assertRaises(Unfit, msg=own):
                word_for(samples.LAST, own)
        for own in (None, 0, "01", ""):
            with self.assertRaises(Unfit):
                word_for(samples.LAST, own)


class HaltingTest(unittest.TestCase):
    def test_of_its_powers_just_one_halts(self):
        for machine in samples.ALL + DRAWN + samples.JUST_48:
            for own in doings(machine):
                powers, now = [], own
                while now not in powers:
                    powers.append(now)
                    now = product(now, own)
                halts = [power for power in powers if product(power, power) == power]
                self.assertEqual(halts, [halted(own)])

    def test_the_set_of_those_that_halt(self):
        for machine in samples.ALL + DRAWN + samples.JUST_48:
            small = samples.plain_least(machine) if len(machine[0]) < 5 else least(machine)
            plain = [own for own in samples.plain_doings(small) if samples.plain_product(own, own) == own]
            self.assertEqual(halting(machine), tuple(sorted(plain)))

    def test_what_halts_at_once(self):
        for machine in FEW:
            for own in halting(machine):
                self.assertEqual(halted(own), own)

    def test_long_ways(self):
        self.assertEqual(halted(tuple([min(own + 1, 11) for own in range(12)])), (11,) * 12)
        self.assertEqual(halted((1, 2, 0, 4, 5, 6, 3, 8, 9, 10, 11, 7)), tuple(range(12)))
        self.assertEqual(halted((1, 2, 3, 4, 5, 6, 4)), (6, 4, 5, 6, 4, 5, 6))

    def test_one_alone_halts_if_letters_lead_one_to_one(self):
        groups = 0
        for machine in samples.ALL + DRAWN + samples.JUST_48:
            small = least(machine)
            columns = [[row[at] for row in small[0]] for at in range(len(small[0][0]))]
            one_to_one = all([len(set(column)) == len(column) for column in columns])
            self.assertEqual(halting(machine) == (doing(machine, ()),), one_to_one)
            groups += one_to_one
        self.assertGreater(groups, 5)


class CommutingTest(unittest.TestCase):
    def test_the_samples_are_of_the_kinds_they_stand_for(self):
        for machines, lawful in ((samples.FREE + samples.LAWFUL + samples.GROUPS, True), (samples.LAWLESS, False)):
            for machine in machines:
                every = doings(machine)
                held = [product(product(e, b), e) == product(e, b) for e in halting(machine) for b in every]
                self.assertEqual(all(held), lawful)
        for machine in samples.GROUPS:
            self.assertEqual(halting(machine), (doing(machine, ()),))

    def test_all_doings_beside_those_of_letters(self):
        free = 0
        for machine in samples.ALL + DRAWN:
            every = samples.plain_doings(samples.plain_least(machine))
            plain = all([samples.plain_product(a, b) == samples.plain_product(b, a) for a in every for b in every])
            self.assertIs(commutes(machine), plain, machine)
            free += plain
        self.assertGreater(free, len(samples.FREE))

    def test_the_kinds(self):
        for machine in samples.FREE + samples.UNTIDY[1:]:
            self.assertIs(commutes(machine), True)
            with self.assertRaises(CanNot):
                crossed(machine)
        for machine in samples.LAWFUL + samples.GROUPS + samples.LAWLESS + samples.UNTIDY[:1]:
            self.assertIs(commutes(machine), False)

    def test_the_least_pair(self):
        for machine in samples.ALL + DRAWN:
            small = samples.plain_least(machine)
            letters = range(1, len(small[0][0]) + 1)
            pairs = [
                (one, other)
                for one in letters
                for other in letters
                if samples.plain_doing(small, (one, other)) != samples.plain_doing(small, (other, one))
            ]
            if pairs:
                self.assertEqual(crossed(machine), min(pairs))
            else:
                self.assertRaises(CanNot, crossed, machine)

    def test_letters_other_than_the_first_two(self):
        self.assertEqual(crossed((((0, 1, 0), (1, 1, 0)), (1,))), (2, 3))
        self.assertEqual(crossed((((1, 0, 0), (1, 1, 0)), (1,))), (1, 3))
        # Four letters: of (1, 4) and (2, 3) the least.
        self.assertEqual(crossed((((1, 0, 1, 2), (1, 1, 1, 2), (1, 0, 0, 2)), (1, 2))), (1, 4))


class SurroundingsTest(unittest.TestCase):
    def test_beside_a_plain_search(self):
        for machine in FEW:
            words = samples.words_by_doing(samples.plain_least(machine), 4)
            few = list(words)[:6]
            for one in few:
                for other in few:
                    if one != other:
                        plain = samples.plain_surroundings(machine, words[one][0], words[other][0], 4)
                        self.assertEqual(surroundings(machine, one, other), plain, (machine, one, other))

    def test_they_are_some_and_the_other_way_round_too(self):
        for machine in FEW + samples.JUST_48[:2]:
            for one in doings(machine):
                for other in doings(machine)[::3]:
                    if one != other:
                        pair = surroundings(machine, one, other)
                        self.assertIs(is_surroundings(machine, one, other, pair), True)
                        self.assertEqual(surroundings(machine, other, one), pair)

    def test_the_least_of_those_with_as_many_letters(self):
        # ((2,), (1,)) or ((2,), (2,)) has as many letters, but (1, 2) is less than (2,), though longer.
        machine = (((1, 2), (2, 3), (3, 3), (1, 1)), (0, 2, 3))
        one, other = (1, 2, 2, 2), (1, 2, 3, 1)
        self.assertEqual(surroundings(machine, one, other), ((1, 2), ()))
        self.assertIs(any([is_surroundings(machine, one, other, ((2,), (own,))) for own in (1, 2)]), True)

    def test_fewest_letters_go_ahead_of_least(self):
        # ((1,), (2,)) is less, but has more letters in all.
        machine = (((2, 1), (0, 0), (0, 2)), (0,))
        for one, other in (((1, 1, 0), (1, 2, 2)), ((2, 1, 0), (2, 2, 1))):
            self.assertIs(is_surroundings(machine, one, other, ((1,), (2,))), True)
            self.assertEqual(surroundings(machine, one, other), ((2,), ()))
            words = word_for(machine, one), word_for(machine, other)
            self.assertEqual(samples.plain_surroundings(machine, words[0], words[1], 3), ((2,), ()))

    def test_none_has_fewer_letters_or_as_many_and_is_less(self):
        for machine in FEW:
            for one in doings(machine)[:4]:
                for other in doings(machine)[:4]:
                    if one != other:
                        pair = surroundings(machine, one, other)
                        many = sum([len(own) for own in pair])
                        for ahead in samples.words_to(min(many, 3), len(machine[0][0])):
                            for behind in samples.words_to(max(min(many, 3) - len(ahead), 0), len(machine[0][0])):
                                if is_surroundings(machine, one, other, (ahead, behind)):
                                    self.assertLessEqual((many, pair), (len(ahead) + len(behind), (ahead, behind)))

    def test_which_words_are_taken_makes_no_difference(self):
        for machine in samples.LAWFUL + samples.LAWLESS + samples.GROUPS[:2]:
            words = samples.words_by_doing(samples.plain_least(machine), 4)
            for one in words:
                for other in words:
                    for pair in ((), ()), ((1,), ()), ((), (2,)), ((2,), (1,)):
                        told = {
                            samples.plain_takes(machine, pair[0] + w + pair[1])
                            != samples.plain_takes(machine, pair[0] + v + pair[1])
                            for w in words[one][:4]
                            for v in words[other][:4]
                        }
                        self.assertEqual(told, {is_surroundings(machine, one, other, pair)})

    def test_just_the_unlike_have_some(self):
        for machine in FEW:
            letters = len(machine[0][0])
            for own in doings(machine):
                with self.assertRaises(CanNot):
                    surroundings(machine, own, own)
                for ahead in samples.words_to(2, letters):
                    for behind in samples.words_to(1, letters):
                        self.assertIs(is_surroundings(machine, own, own, (ahead, behind)), False)

    def test_things(self):
        def told(thing):
            return is_surroundings(samples.LAST, (0, 1), (0, 0), thing)

        for thing in (((1,), ()), ((1, 1), ()), ((2, 1), ()), ((1,) * 3000, ())):
            self.assertIs(told(thing), True)
        for thing in (((), ()), ((2,), ()), ((1,), (1,)), ((1,), (2,)), ((), (1,)), ((2,) * 3000, ())):
            self.assertIs(told(thing), False)

    def test_wrong_things(self):
        def told(thing):
            return is_surroundings(samples.LAST, (0, 1), (0, 0), thing)

        wrong = [
            ((1,),),
            ((1,), (), ()),
            [(1,), ()],
            ([1], ()),
            ((1,), []),
            ((True,), ()),
            ((1,), None),
            ((1,), ""),
            ("1", ()),
            (1, ()),
            ((1,), 0),
            ((3,), ()),
            ((1,), (3,)),
            ((3, 1), ()),
            ((0,), ()),
            ((1, 0), ()),
            ((-1,), ()),
            ((1, 10 ** 300), ()),
            (((1,),), ()),
        ]
        for thing in wrong + samples.ODD_THINGS:
            self.assertIs(told(thing), False, thing)
        for made in (tuple, list):
            for deep in (1, 2, 50, 98):
                nest = samples.nested(made, deep)
                self.assertIs(told(nest), False)
                self.assertIs(told(((1,), (nest,))), False)


class RefusalsTest(unittest.TestCase):
    def test_too_much_goes_ahead_of_all_else(self):
        for machine in samples.ABOVE_48:
            nothing_done = doing(machine, ())
            for own in (nothing_done, (0,), (True,), None):
                self.assertRaises(TooMuch, word_for, machine, own)
                self.assertRaises(TooMuch, is_doing, machine, own)
                for other in (nothing_done, (5, 5)):
                    self.assertRaises(TooMuch, surroundings, machine, own, other)
                    self.assertRaises(TooMuch, is_surroundings, machine, own, other, ((), ()))
                    self.assertRaises(TooMuch, is_surroundings, machine, own, other, None)
            for call in (doings, halting, commutes, crossed):
                self.assertRaises(TooMuch, call, machine)

    def test_not_with_just_48(self):
        for machine in samples.JUST_48:
            every = doings(machine)
            self.assertIs(is_doing(machine, every[-1]), True)
            self.assertEqual(doing(machine, word_for(machine, every[-1])), every[-1])
            self.assertIn(doing(machine, ()), halting(machine))
            pair = surroundings(machine, every[0], every[-1])
            self.assertIs(is_surroundings(machine, every[0], every[-1], pair), True)
            self.assertIs(commutes(machine), machine is samples.JUST_48[2])

    def test_product_and_halted_with_doings_of_too_many(self):
        machine = samples.ABOVE_48[2]
        step = doing(machine, (1,))
        self.assertEqual(product(step, step), doing(machine, (1, 1)))
        self.assertEqual(halted(step), doing(machine, ()))

    def test_what_is_no_doing(self):
        good = (0, 1)
        for own in NO_DOINGS + made_lists(NO_DOINGS) + [None, 0, "01", ""]:
            for one, other in ((own, good), (good, own), (own, own)):
                self.assertRaises(Unfit, surroundings, samples.LAST, one, other)
                for thing in (((), ()), None, [], ((3,), ())):
                    self.assertRaises(Unfit, is_surroundings, samples.LAST, one, other, thing)

    def test_alike_doings(self):
        for own in doings(samples.LAST):
            self.assertRaises(CanNot, surroundings, samples.LAST, own, own)
            self.assertRaises(CanNot, surroundings, samples.LAST, own, list(own))


class CallsTest(unittest.TestCase):
    def test_lists_for_tuples(self):
        for machine in FEW:
            told = samples.listed(machine)
            kept = copy.deepcopy(told)
            every = doings(machine)
            self.assertEqual(repr(doings(told)), repr(every))
            self.assertEqual(repr(halting(told)), repr(halting(machine)))
            self.assertIs(commutes(told), commutes(machine))
            self.assertEqual(repr(doing(told, [1, 1])), repr(doing(machine, (1, 1))))
            for own in every:
                one = list(own)
                self.assertIs(is_doing(told, own), True)
                self.assertEqual(repr(word_for(told, one)), repr(word_for(machine, own)))
                self.assertEqual(repr(halted(one)), repr(halted(own)))
                self.assertEqual(repr(product(one, list(every[0]))), repr(product(own, every[0])))
                if own != every[0]:
                    pair = surroundings(told, one, list(every[0]))
                    self.assertEqual(repr(pair), repr(surroundings(machine, own, every[0])))
                    self.assertIs(is_surroundings(told, one, list(every[0]), pair), True)
                    self.assertIs(is_surroundings(told, one, list(every[0]), list(pair)), False)
                self.assertEqual(one, list(own))
            self.assertEqual(told, kept)
        self.assertEqual(crossed(samples.listed(samples.LAST)), (1, 2))

    def test_arguments_by_name(self):
        machine = samples.LAST
        self.assertEqual(doing(word=(1,), machine=machine), (1, 1))
        self.assertEqual(product(other=(0, 0), one=(1, 1)), (0, 0))
        self.assertEqual(doings(machine=machine), ((0, 0), (0, 1), (1, 1)))
        self.assertIs(is_doing(thing=(0, 0), machine=machine), True)
        self.assertEqual(word_for(one=(0, 0), machine=machine), (2,))
        self.assertEqual(halted(one=(1, 0)), (0, 1))
        self.assertEqual(halting(machine=machine), ((0, 0), (0, 1), (1, 1)))
        self.assertIs(commutes(machine=machine), False)
        self.assertEqual(crossed(machine=machine), (1, 2))
        self.assertEqual(surroundings(other=(0, 0), one=(0, 1), machine=machine), ((1,), ()))
        self.assertIs(is_surroundings(thing=((1,), ()), other=(0, 0), one=(0, 1), machine=machine), True)

    def test_alike_machines_have_the_same(self):
        self.assertEqual(doings(samples.FOURS), doings(samples.ODD))
        self.assertEqual(doings(samples.TWICE), doings(samples.LAST))
        for one in doings(samples.LAST):
            self.assertEqual(word_for(samples.TWICE, one), word_for(samples.LAST, one))


if __name__ == "__main__":
    unittest.main()
