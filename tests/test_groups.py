"""[17]: conjugates, TABLES, telling WORDS, the PAIR with the fewest marks, RUNS against PAIRS with fewer."""

import itertools
import random
import unittest

import samples
from calls import check_calls, check_no_things, nests, spoilt
from walks import COUNT, HEAR, LATEST, LEAD, drawn_pairs, drawn_runs, every_run, plain_refutes
from bothroads.bits import bit_pair
from bothroads.doings import commutes, doing, doings, halting, product
from bothroads.errors import CanNot, NoPlace, TooMuch, Unfit
from bothroads.groups import (
    conjugates,
    few_against,
    fewest_marks,
    group_pair,
    is_marks_table,
    is_telling,
    marks_with,
    states_led,
    telling_words,
)
from bothroads.keepers import bare_roads, is_pair, letters_of, marks_of, refutes
from bothroads.law import is_lawful
from bothroads.machines import letters_in
from bothroads.oneroad import one_pair
from bothroads.runs import is_at_rest, is_run, settled
from bothroads.weavings import weaving_count


def drawn_groups(many, seed, states, letters):
    """Draw so many MACHINES each letter of which leads one-to-one, with not too many DOINGS."""
    draw = random.Random(seed)
    found = []
    while len(found) < many:
        size = draw.randint(1, states)
        columns = [draw.sample(range(size), size) for _ in range(draw.randint(1, letters))]
        machine = (tuple(zip(*columns)), tuple(sorted(draw.sample(range(size), draw.randint(0, size)))))
        if len(samples.plain_doings(samples.plain_least(machine))) <= 48:
            found.append(machine)
    return found


# Not least, alike to SPINS: there letter 1 leads two STATES to one.
TWO_SPINS = (((1, 3), (0, 2), (5, 1), (1, 0), (3, 2), (2, 4)), (0, 3))
GROUPS = (
    samples.GROUPS
    + [samples.ODD, samples.FOURS, samples.TWO_ODD, samples.LONE, samples.NEVER]
    + drawn_groups(14, 171, 5, 2)
)
GROUPS = GROUPS + drawn_groups(6, 172, 4, 3) + [samples.JUST_48[2]]
SMALL = [own for own in GROUPS if len(doings(own)) <= 24]
CROSSED = [own for own in SMALL if not commutes(own)]
NO_GROUPS = samples.LAWFUL + samples.LAWLESS + [samples.LIGHT, samples.UP_TO_TWO, samples.TWICE]
SPINS, WHEEL = samples.SPINS, samples.WHEEL


class Plain:
    """What conjugates do, by all DOINGS, opposites by trying all of them."""

    def __init__(self, machine, letter):
        self.small = samples.plain_least(machine)
        self.letter = letter
        self.doings = sorted(samples.plain_doings(self.small))
        self.one = tuple(range(len(self.small[0])))
        own = samples.plain_doing(self.small, (letter,))
        self.by = {}
        for one in self.doings:
            back = [other for other in self.doings if samples.plain_product(one, other) == self.one]
            self.by[one] = samples.plain_product(samples.plain_product(one, own), back[0])
        self.conjugates = sorted(set(self.by.values()))
        self.led = [sorted({own[state] for own in self.conjugates}) for state in self.one]

    def told(self, word):
        return self.by[samples.plain_doing(self.small, word)][0]

    def words(self):
        found = {}
        for length in range(60):
            for word in itertools.product(range(1, len(self.small[0][0]) + 1), repeat=length):
                found.setdefault(self.told(word), word)
            if len(found) == len(self.led[0]):
                return tuple([found[state] for state in sorted(found)])

    def is_table(self, table):
        steps = self.small[0]
        if not all([row[self.letter - 1] in own for row, own in zip(steps, table)]):
            return False
        return all(
            [
                {steps[state][at] for state in own} == set(table[to])
                for row, own in zip(steps, table)
                for at, to in enumerate(row)
            ]
        )


def letters(machine):
    return range(1, letters_in(machine) + 1)


def with_fewer(pair, side, letter, marks):
    """Give pair with the KEEPER of the other SIDE told to send with letter none but the first marks."""
    told, sent, heard = pair[1 - side]
    rows = []
    for row in sent:
        stand, mark = row[letter - 1]
        rows.append(row[: letter - 1] + ((stand, mark % marks),) + row[letter:])
    keeper = (told, tuple(rows), heard)
    return (pair[0], keeper) if side == 0 else (keeper, pair[1])


class ConjugatesTest(unittest.TestCase):
    def test_beside_all_doings(self):
        for machine in GROUPS:
            for letter in letters(machine):
                plain = Plain(machine, letter)
                self.assertEqual(conjugates(machine, letter), tuple(plain.conjugates), machine)
                self.assertEqual(states_led(machine, letter), tuple([tuple(own) for own in plain.led]))
                self.assertEqual(fewest_marks(machine, letter), len(plain.led[0]))
                self.assertEqual(len({len(own) for own in plain.led}), 1)

    def test_telling_words_beside_all_words(self):
        for machine in SMALL:
            for letter in letters(machine):
                self.assertEqual(telling_words(machine, letter), Plain(machine, letter).words())

    def test_one_mark_just_if_the_letter_commutes_with_all(self):
        told = {True: 0, False: 0}
        for machine in GROUPS:
            for letter in letters(machine):
                own = doing(machine, (letter,))
                plain = all([product(own, one) == product(one, own) for one in doings(machine)])
                self.assertEqual(fewest_marks(machine, letter) == 1, plain)
                self.assertEqual(len(conjugates(machine, letter)) == 1, plain)
                told[plain] += 1
        self.assertGreater(min(told.values()), 6)

    def test_one_state(self):
        for machine in (samples.LONE, samples.NEVER):
            for letter in letters(machine):
                self.assertEqual(conjugates(machine, letter), ((0,),))
                self.assertEqual((states_led(machine, letter), fewest_marks(machine, letter)), (((0,),), 1))
                self.assertEqual(telling_words(machine, letter), ((),))
                self.assertIs(is_marks_table(machine, letter, ((0,),)), True)
                self.assertIs(is_marks_table(machine, letter, ((),)), False)

    def test_not_least(self):
        for letter in (1, 2):
            self.assertEqual(states_led(TWO_SPINS, letter), states_led(SPINS, letter))
            self.assertEqual(telling_words(TWO_SPINS, letter), telling_words(SPINS, letter))

    def test_a_groups_leads_no_two_states_to_one(self):
        for machine in GROUPS:
            self.assertEqual(len(halting(machine)), 1)
            self.assertIs(is_lawful(machine), True)


class TablesTest(unittest.TestCase):
    def test_beside_the_document_for_all_tables(self):
        found = 0
        for machine in [own for own in GROUPS if len(samples.plain_least(own)[0]) <= 3]:
            states = range(len(samples.plain_least(machine)[0]))
            sets = [own for many in range(len(states) + 1) for own in itertools.combinations(states, many)]
            for letter in letters(machine):
                plain = Plain(machine, letter)
                for table in itertools.product(sets, repeat=len(states)):
                    held = plain.is_table(table)
                    self.assertIs(is_marks_table(machine, letter, table), held)
                    if held:
                        found += 1
                        self.assertEqual(len({len(own) for own in table}), 1)
                        for led, own in zip(states_led(machine, letter), table):
                            self.assertLessEqual(set(led), set(own))
        self.assertGreater(found, 40)

    def test_states_led_is_one(self):
        for machine in GROUPS:
            for letter in letters(machine):
                table = states_led(machine, letter)
                self.assertIs(is_marks_table(machine, letter, table), True)
                every = (tuple(range(len(table))),) * len(table)
                self.assertIs(is_marks_table(machine, letter, every), True)

    def test_of_which_letter(self):
        # In the TABLE of letter 2 letter 1's way leads elsewhere.
        table = states_led(WHEEL, 2)
        self.assertIs(is_marks_table(WHEEL, 2, table), True)
        self.assertIs(is_marks_table(WHEEL, 1, table), False)

    def test_things(self):
        check_no_things(self, lambda thing: is_marks_table(WHEEL, 2, thing), states_led(WHEEL, 2))
        for thing in (
            ((2, 1), (0, 2), (0, 1)),
            ((1, 1, 2), (0, 2), (0, 1)),
            ((1, 2), (0, 2)),
            ((1, 2), (0, 2), (0, 1), (0, 1)),
            ((1, 3), (0, 2), (0, 1)),
            ((1, 2), (0, 2), (0,)),
            ((), (), ()),
            ((0, 1, 2),) * 2,
            [(1, 2), (0, 2), (0, 1)],
            ((0, 1, 2),) * 30000,
            (tuple(range(30000)),) * 3,
        ):
            self.assertIs(is_marks_table(WHEEL, 2, thing), False, thing[:3])


class TellingTest(unittest.TestCase):
    def test_beside_the_document(self):
        told = {True: 0, False: 0}
        for machine in [own for own in SMALL if letters_in(own) == 2]:
            words = list(samples.words_to(2, 2))
            for letter in (1, 2):
                plain = Plain(machine, letter)
                for many in (1, 2, 3):
                    for thing in list(itertools.product(words, repeat=many))[:: 1 if many < 3 else 11]:
                        held = len({plain.told(word) for word in thing}) == many
                        self.assertIs(is_telling(machine, letter, thing), held)
                        told[held] += 1
        self.assertGreater(min(told.values()), 300)

    def test_telling_words_are_such(self):
        for machine in GROUPS:
            for letter in letters(machine):
                words = telling_words(machine, letter)
                self.assertEqual(len(words), fewest_marks(machine, letter))
                self.assertIs(is_telling(machine, letter, words), True)
                self.assertIs(is_telling(machine, letter, words[::-1]), True)
                self.assertIs(is_telling(machine, letter, words + words[:1]), False)
                self.assertIs(is_telling(machine, letter, words[1:]), len(words) > 1)

    def test_things(self):
        for thing in samples.ODD_THINGS + list(nests()) + list(spoilt(((2,), (1, 2)))):
            self.assertIs(is_telling(WHEEL, 2, thing), thing == ((),), thing)
        for thing in ((), ((3,),), ((1,), (3,)), ((0,),), (1, 2), ((), (1,), (2,)), [(), (1,)], ((True,), ())):
            self.assertIs(is_telling(WHEEL, 2, thing), False, thing)
        self.assertIs(is_telling(WHEEL, 2, ((1, 1) * 20000, (2, 2, 2) * 20000 + (1,))), True)
        self.assertIs(is_telling(WHEEL, 2, ((),) * 3000), False)


class MarksTest(unittest.TestCase):
    def test_all_stands_count_come_to_or_not(self):
        keeper = ((True,) * 3, (((0, 2), (1, 0)), ((1, 5), (1, 0)), ((0, 2), (0, 1))), (((0,), (0,)),) * 3)
        self.assertEqual((marks_with(keeper, 1), marks_with(keeper, 2)), ((2, 5), (0, 1)))
        for pair in drawn_pairs(30, 173, letters=3):
            for keeper in pair:
                for letter in (1, 2, 3):
                    self.assertEqual(
                        marks_with(keeper, letter), tuple(sorted({row[letter - 1][1] for row in keeper[1]}))
                    )

    def test_letters_that_it_has_not(self):
        for keeper, letter in ((COUNT, 2), (COUNT, 0), (LATEST, 3), (LATEST, -1), (LATEST, 10**9)):
            with self.assertRaises(NoPlace) as caught:
                marks_with(keeper, letter)
            self.assertEqual(caught.exception.place, letter)


class PairTest(unittest.TestCase):
    def test_its_marks(self):
        for machine in GROUPS:
            for side in (0, 1):
                pair = group_pair(machine, side)
                self.assertIs(is_pair(pair), True)
                self.assertEqual((letters_of(pair[0]), marks_of(pair[1 - side])), (letters_in(machine), 1))
                self.assertIn(side, bare_roads(pair))
                fewest = [fewest_marks(machine, letter) for letter in letters(machine)]
                self.assertEqual([len(marks_with(pair[1 - side], letter)) for letter in letters(machine)], fewest)
                self.assertEqual(marks_of(pair[side]), max(fewest))

    def test_it_is_right(self):
        drawn = drawn_runs(200, 174, events=40, letters=3)
        for machine in GROUPS:
            for side in (0, 1):
                pair = group_pair(machine, side)
                for run in drawn:
                    if max([own for _, own in run], default=1) <= letters_in(machine):
                        self.assertIs(refutes(pair, machine, settled(run)), False, (machine, side, run))

    def test_it_is_right_by_all_weavings(self):
        runs = [own for own in every_run(6, 2) if is_at_rest(own)]
        for machine in CROSSED[:6]:
            if letters_in(machine) == 2:
                for side in (0, 1):
                    pair = group_pair(machine, side)
                    for run in runs[::5]:
                        self.assertIs(plain_refutes(pair, machine, run), False)


class FewTest(unittest.TestCase):
    def check_refutes(self, pair, machine, side, letter):
        run = few_against(pair, machine, side, letter)
        self.assertIs(is_run(run), True)
        self.assertIs(refutes(pair, machine, run), True, (machine, side, letter))
        return run

    def test_group_pairs_with_fewer_marks(self):
        some = 0
        for machine in GROUPS:
            for side in (0, 1):
                pair = group_pair(machine, side)
                for letter in letters(machine):
                    for marks in range(1, fewest_marks(machine, letter)):
                        self.check_refutes(with_fewer(pair, side, letter, marks), machine, side, letter)
                        some += 1
        self.assertGreater(some, 30)

    def test_whatever_pairs(self):
        some = [0, 0]
        for machine in [own for own in CROSSED if letters_in(own) == 2]:
            for pair in drawn_pairs(40, 175, letters=2, stands=9, marks=2):
                for side in bare_roads(pair):
                    for letter in (1, 2):
                        if len(marks_with(pair[1 - side], letter)) < fewest_marks(machine, letter):
                            self.check_refutes(pair, machine, side, letter)
                            some[side] += 1
        self.assertGreater(min(some), 100)

    def test_short_ones_beside_all_weavings(self):
        plain = 0
        for machine in CROSSED:
            for letter in letters(machine):
                for side in (0, 1):
                    if fewest_marks(machine, letter) > 1:
                        pair = with_fewer(group_pair(machine, side), side, letter, 1)
                        run = self.check_refutes(pair, machine, side, letter)
                        if len(run) <= 16:
                            plain += 1
                            self.assertIs(plain_refutes(pair, machine, run), True)
        self.assertGreater(plain, 4)

    def test_pairs_that_go_on_in_their_own_order(self):
        """They are right where there is one WEAVING: letters must cross."""
        for machine in CROSSED + samples.GROUPS:
            small = samples.plain_least(machine)
            keeper = (
                tuple([state in small[1] for state in range(len(small[0]))]),
                tuple([tuple([(to, 0) for to in row]) for row in small[0]]),
                tuple([tuple([(to,) for to in row]) for row in small[0]]),
            )
            for letter in letters(machine):
                for side in (0, 1):
                    if fewest_marks(machine, letter) > 1:
                        run = self.check_refutes((keeper, keeper), machine, side, letter)
                        self.assertGreater(weaving_count(run), 1)

    def test_pairs_that_always_answer_alike(self):
        """Where letters cross some WEAVING may let such an answer be: it is wrong where there is one WEAVING."""
        alone = 0
        for machine in CROSSED:
            for letter in letters(machine):
                if fewest_marks(machine, letter) > 1:
                    for told in (False, True):
                        many = letters_in(machine)
                        keeper = ((told,), (((0, 0),) * many,), (((0,),) * many,))
                        for side in (0, 1):
                            run = self.check_refutes((keeper, keeper), machine, side, letter)
                            alone += weaving_count(run) == 1
        self.assertGreater(alone, 10)

    def test_three_letters(self):
        for machine in (samples.CUBE, samples.GROUPS[2]):
            for pair in drawn_pairs(30, 176, letters=3, marks=2, stands=20):
                for side in bare_roads(pair):
                    for letter in (1, 2, 3):
                        if len(marks_with(pair[1 - side], letter)) < fewest_marks(machine, letter):
                            self.check_refutes(pair, machine, side, letter)

    def test_just_so_many_and_more(self):
        for machine in [own for own in SMALL if len(doings(own)) <= 8]:
            for side in (0, 1):
                for pair in (group_pair(machine, side), one_pair(machine, side)):
                    for letter in letters(machine):
                        self.assertRaises(CanNot, few_against, pair, machine, side, letter)
        # More marks than are needed, in a PAIR that is wrong all the same.
        never = ((False,) * 3, (((0, 0), (0, 0)), ((0, 1), (0, 1)), ((0, 2), (0, 2))), (((0,), (0,)),) * 3)
        hears = ((False,), (((0, 0), (0, 0)),), (((0, 0, 0), (0, 0, 0)),))
        self.assertRaises(CanNot, few_against, (hears, never), WHEEL, 0, 1)
        self.assertRaises(CanNot, few_against, (hears, never), WHEEL, 0, 2)
        self.assertRaises(CanNot, few_against, (never, hears), WHEEL, 1, 2)


class ChecksTest(unittest.TestCase):
    ASKED = (conjugates, states_led, fewest_marks, telling_words)
    THINGS = ((), None, ((0, 1, 2),) * 3, ((), (1,)), "x", [])

    def check_all(self, error, machine, letter):
        for call in self.ASKED:
            self.assertRaises(error, call, machine, letter)
        for thing in self.THINGS:
            self.assertRaises(error, is_marks_table, machine, letter, thing)
            self.assertRaises(error, is_telling, machine, letter, thing)

    def test_too_much_ahead_of_a_group_ahead_of_letters(self):
        for machine in samples.ABOVE_48:
            for letter in (1, 9):
                self.check_all(TooMuch, machine, letter)
            self.assertRaises(TooMuch, group_pair, machine, 0)
        for machine in NO_GROUPS:
            for letter in (1, 9):
                self.check_all(Unfit, machine, letter)
            self.assertRaises(Unfit, group_pair, machine, 1)
        for machine in GROUPS[:6]:
            for letter in (letters_in(machine) + 1, 0, 10**9):
                self.check_all(NoPlace, machine, letter)
        with self.assertRaises(NoPlace) as caught:
            conjugates(WHEEL, 3)
        self.assertEqual(caught.exception.place, 3)

    def test_few_against_in_its_order(self):
        bare, marked = (LATEST, LATEST), bit_pair(samples.LAST)
        for side in (0, 1):
            # Unlike many letters, ahead of all.
            for machine in (samples.ABOVE_48[2], samples.ODD, samples.LIGHT[:1] + ((),), samples.CUBE):
                other = bare if letters_in(machine) != 2 else (COUNT, COUNT)
                self.assertRaises(Unfit, few_against, other, machine, side, 9)
            self.assertRaises(TooMuch, few_against, marked, samples.ABOVE_48[0], side, 9)
            self.assertRaises(Unfit, few_against, marked, samples.BEGINS, side, 9)
            self.assertRaises(Unfit, few_against, bare, samples.LAST, side, 1)
            self.assertRaises(NoPlace, few_against, marked, WHEEL, side, 9)
            self.assertRaises(Unfit, few_against, marked, WHEEL, side, 1)
            self.assertRaises(CanNot, few_against, bare, samples.TWO_ODD, side, 1)
        self.assertRaises(Unfit, few_against, (LEAD, HEAR), samples.ODD, 0, 1)
        self.assertRaises(CanNot, few_against, (LEAD, HEAR), samples.ODD, 1, 1)

    def test_just_48(self):
        for machine in samples.JUST_48[2:]:
            self.assertEqual(len(group_pair(machine, 0)[0][0]), 48)
            self.assertGreater(fewest_marks(machine, 1), 0)


class CallsTest(unittest.TestCase):
    def test_lists_names_and_nothing_changed(self):
        for machine in (SPINS, WHEEL, samples.ODD, samples.BEGINS, samples.ABOVE_48[0]):
            for letter in (1, 2):
                for call in self.calls():
                    check_calls(self, call, machine, letter)
                for thing in (((0, 1, 2),) * 3, [[0, 1, 2]] * 3, ((), (1,)), [()], None):
                    check_calls(self, is_marks_table, machine, letter, thing)
                    check_calls(self, is_telling, machine, letter, thing)
                check_calls(self, few_against, (LATEST, LATEST), machine, 0, letter)
            check_calls(self, group_pair, machine, 1)
        check_calls(self, marks_with, LATEST, 2)
        check_calls(self, marks_with, LATEST, 3)

    def calls(self):
        return ChecksTest.ASKED


if __name__ == "__main__":
    unittest.main()
