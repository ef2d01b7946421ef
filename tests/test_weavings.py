"""[3] and [7]: WEAVINGS, how many there are, which one stands where, what they read and where they lead."""

import itertools
import random
import unittest

import samples
from calls import check_calls, check_no_things
from walks import (
    CROSS,
    EMPTY,
    IN_TURN,
    LATER,
    MEET,
    ONE_SIDED,
    OPEN,
    SOME,
    History,
    drawn_runs,
    every_run,
)
from bothroads.errors import CanNot, NoPlace, Unfit
from bothroads.machines import least, takes
from bothroads.runs import puts_of
from bothroads.weavings import (
    answers_come,
    free_pairs,
    is_weaving,
    is_weaving_of,
    order_of,
    otherwise,
    place_of,
    reads,
    states_come,
    weaving_at,
    weaving_count,
    weaving_to,
)

SHORT = list(every_run(5, 1))
DRAWN = [run for run in drawn_runs(200, 21, events=9, letters=2) if len(puts_of(run)) < 7][:60]
FEW_PUTS = SHORT + DRAWN + [own for own in SOME if len(puts_of(own)) < 7]
LONG = drawn_runs(15, 22, events=60, letters=2)
# RUNS of two letters that lead as many ways as can be.
TWO_LETTERS = DRAWN + [CROSS, LATER, EMPTY] + ONE_SIDED[:2]
OF_TWO = [own for own in samples.ALL if len(own[0][0]) == 2]


def steps_between(run, start):
    """Give, for each WEAVING, by how many exchanges of two neighbours that are free it comes of start."""
    free = set(free_pairs(run))
    told, level = {start: 0}, [start]
    while level:
        further = []
        for order in level:
            for at in range(len(order) - 1):
                if tuple(sorted(order[at : at + 2])) in free:
                    other = order[:at] + (order[at + 1], order[at]) + order[at + 2 :]
                    if other not in told:
                        told[other] = told[order] + 1
                        further.append(other)
        level = further
    return told


class ListingTest(unittest.TestCase):
    def test_count_places_and_which_stands_where(self):
        for run in FEW_PUTS:
            every = History(run).weavings()
            self.assertEqual(every, sorted(every))
            self.assertEqual(weaving_count(run), len(every), run)
            for place, order in enumerate(every):
                self.assertEqual(weaving_at(run, place), order)
                self.assertEqual(place_of(run, order), place)
            for number in (-1, -len(every), len(every), len(every) + 1, 10 ** 40):
                with self.assertRaises(NoPlace) as caught:
                    weaving_at(run, number)
                self.assertEqual(caught.exception.place, number)

    def test_all_orders(self):
        for run in FEW_PUTS:
            plain = History(run)
            numbers = range(len(plain.puts))
            for order in itertools.permutations(numbers):
                good = plain.is_weaving(numbers, order)
                self.assertIs(is_weaving(run, order), good)
                if not good:
                    self.assertRaises(Unfit, place_of, run, order)
                    self.assertRaises(Unfit, reads, run, order)
                    self.assertRaises(Unfit, otherwise, run, order, tuple(numbers))
                    self.assertRaises(Unfit, otherwise, run, tuple(numbers), order)

    def test_weavings_of_sets(self):
        for run in DRAWN[:25] + [LATER, CROSS, MEET]:
            plain = History(run)
            for many in range(min(len(plain.puts), 4) + 1):
                for numbers in itertools.combinations(range(len(plain.puts)), many):
                    for order in itertools.permutations(numbers):
                        good = plain.is_weaving(numbers, order)
                        self.assertIs(is_weaving_of(run, numbers, order), good)
                        if good:
                            self.assertEqual(reads(run, order), plain.letters(order))
                        else:
                            self.assertRaises(Unfit, reads, run, order)

    def test_sets_that_hold_what_is_no_put(self):
        for thing in ((), (0,), None, "x", (0, 9), [0]):
            for numbers, place in (((9,), 9), ((-1, 0), -1), ((0, 4), 4), ((-2, 3, 7), -2), ((1, 5, 8), 5)):
                with self.assertRaises(NoPlace) as caught:
                    is_weaving_of(LATER, numbers, thing)
                self.assertEqual(caught.exception.place, place)
        with self.assertRaises(NoPlace):
            is_weaving_of((), (0,), (0,))

    def test_of_a_set_each_once_and_no_other(self):
        self.assertIs(is_weaving_of(LATER, (0, 2), (0, 2)), True)
        for thing in ((0,), (0, 2, 2), (0, 0), (0, 1), (0, 1, 2), (2, 3), ()):
            self.assertIs(is_weaving_of(LATER, (0, 2), thing), False)
        self.assertIs(is_weaving_of(LATER, (), ()), True)
        self.assertIs(is_weaving_of((), (), ()), True)
        # What is not of the set need not stand: PUT 3 has seen 0 and 2, PUT 1 has seen 0.
        self.assertIs(is_weaving_of(LATER, (1, 3), (3, 1)), True)
        self.assertIs(is_weaving_of(LATER, (0, 3), (3, 0)), False)

    def test_things(self):
        for run, order in ((LATER, (2, 0, 1, 3)), (CROSS, (1, 0)), (((0, 1),), (0,))):
            check_no_things(self, lambda thing: is_weaving(run, thing), order)
            check_no_things(self, lambda thing: is_weaving_of(run, tuple(sorted(order)), thing), order)
        self.assertIs(is_weaving((), ()), True)
        for thing in ([], (0,), None, False, 0, ""):
            self.assertIs(is_weaving((), thing), False)
        self.assertIs(is_weaving(CROSS, tuple(range(50000))), False)
        self.assertIs(is_weaving(CROSS, (0, 1, 10 ** 400)), False)
        self.assertIs(is_weaving(CROSS, (0, 10 ** 400)), False)

    def test_long_things(self):
        run = ((0, 1), (1, 0), (1, 1), (0, 0)) * 5000
        order = tuple(range(10000))
        self.assertIs(is_weaving(run, order), True)
        self.assertIs(is_weaving(run, order[::-1]), False)
        self.assertIs(is_weaving(run, order[:-2] + (9999, 9998)), False)
        self.assertIs(is_weaving(((0, 1), (1, 1)) * 5000, order[::2] + order[1::2]), True)


class ReadsTest(unittest.TestCase):
    def test_what_is_no_weaving_of_any_set(self):
        for order in ((3, 0), (1, 0), (0, 0), (4,), (-1,), (0, 2, 0), (0, 1, 2, 3, 4), (3, 2), (10 ** 30,)):
            self.assertRaises(Unfit, reads, LATER, order)
        self.assertRaises(Unfit, reads, (), (0,))
        self.assertEqual(reads((), ()), ())

    def test_unfit_for_whole_runs(self):
        for order in ((), (0,), (0, 1, 2), (0, 1, 2, 3, 3), (0, 1, 2, 4), (-1, 0, 1, 2), (1, 0, 2, 3)):
            self.assertRaises(Unfit, place_of, LATER, order)
            self.assertRaises(Unfit, otherwise, LATER, order, (0, 1, 2, 3))
            self.assertRaises(Unfit, otherwise, LATER, (0, 1, 2, 3), order)


class OrderTest(unittest.TestCase):
    def test_free_pairs_and_orders_beside_a_plain_walk(self):
        for run in FEW_PUTS + LONG:
            plain = History(run)
            many = len(plain.puts)
            free = [pair for pair in itertools.combinations(range(many), 2) if pair[0] not in plain.seen[pair[1]]]
            self.assertEqual(free_pairs(run), tuple(free))
            for side in (0, 1):
                self.assertEqual(order_of(run, side), tuple(plain.known[side]))

    def test_otherwise_beside_all_pairs(self):
        for run in DRAWN[:20] + [LATER]:
            every = History(run).weavings()
            for one in every[:12]:
                for other in every[-12:]:
                    plain = [
                        (elder, later)
                        for elder, later in itertools.combinations(range(len(one)), 2)
                        if (one.index(elder) < one.index(later)) != (other.index(elder) < other.index(later))
                    ]
                    self.assertEqual(otherwise(run, one, other), tuple(plain))

    def test_the_puts_in_their_order_are_the_least(self):
        for run in FEW_PUTS + LONG + [OPEN, IN_TURN]:
            self.assertEqual(weaving_at(run, 0), tuple(range(len(puts_of(run)))))
            self.assertEqual(place_of(run, tuple(range(len(puts_of(run))))), 0)

    def test_as_they_came_to_be_known_they_are_a_weaving(self):
        for run in FEW_PUTS + LONG:
            for side in (0, 1):
                order = order_of(run, side)
                self.assertIs(is_weaving_of(run, tuple(sorted(order)), order), True)

    def test_exchanges_of_neighbours(self):
        for run in DRAWN + [LATER, CROSS, OPEN[:6]]:
            every = History(run).weavings()
            for start in (every[0], every[len(every) // 2]):
                told = steps_between(run, start)
                self.assertEqual(sorted(told), every)
                for order in every:
                    self.assertEqual(len(otherwise(run, start, order)), told[order])

    def test_one_weaving_if_no_puts_are_free(self):
        for run in FEW_PUTS + LONG + [OPEN, IN_TURN]:
            self.assertEqual(weaving_count(run) == 1, free_pairs(run) == ())
        for run in ONE_SIDED + [EMPTY, IN_TURN]:
            self.assertEqual(weaving_count(run), 1)


class VeryManyTest(unittest.TestCase):
    def test_all_free(self):
        ways = 1
        for own in range(1, 31):
            ways = ways * (30 + own) // own
        self.assertEqual(weaving_count(OPEN), ways)
        self.assertGreater(ways, 10 ** 17)
        evens, odds = tuple(range(0, 60, 2)), tuple(range(1, 60, 2))
        self.assertEqual(place_of(OPEN, odds + evens), ways - 1)
        self.assertEqual(weaving_at(OPEN, ways - 1), odds + evens)
        with self.assertRaises(NoPlace):
            weaving_at(OPEN, ways)

    def test_there_and_back(self):
        draw = random.Random(23)
        for run in LONG + [OPEN]:
            many = weaving_count(run)
            places = sorted([draw.randrange(many) for _ in range(20)])
            orders = [weaving_at(run, place) for place in places]
            self.assertEqual([place_of(run, order) for order in orders], places)
            self.assertEqual(orders, sorted(orders))
            for order in orders:
                self.assertIs(is_weaving(run, order), True)

    def test_states_of_very_many(self):
        self.assertEqual(states_come(samples.LAST, OPEN), (0, 1))
        self.assertEqual(states_come(samples.SPINS, OPEN), (0, 1, 2))
        for run in LONG + [OPEN]:
            for machine in OF_TWO:
                for state in states_come(machine, run):
                    order = weaving_to(machine, run, state)
                    self.assertIs(is_weaving(run, order), True)
                    self.assertEqual(samples.plain_state(least(machine), reads(run, order)), state)


class LeadingTest(unittest.TestCase):
    def test_beside_all_weavings(self):
        for machine in OF_TWO + samples.drawn_machines(12, 24, letters=1):
            for run in TWO_LETTERS if len(machine[0][0]) == 2 else SHORT[::9]:
                plain = History(run)
                states = plain.states(machine)
                self.assertEqual(states_come(machine, run), tuple(states), (machine, run))
                self.assertEqual(answers_come(machine, run), tuple(plain.answers(machine)))
                for state in range(-1, len(machine[0]) + 1):
                    if state in states:
                        order = weaving_to(machine, run, state)
                        self.assertIs(is_weaving(run, order), True)
                        self.assertEqual(samples.plain_state(samples.plain_least(machine), reads(run, order)), state)
                    else:
                        self.assertRaises(CanNot, weaving_to, machine, run, state)

    def test_states_are_those_of_the_least_machine(self):
        self.assertEqual(states_come(samples.FOURS, ((0, 1),) * 3), (1,))
        self.assertEqual(states_come(samples.TWICE, CROSS), (0, 1))
        self.assertRaises(CanNot, weaving_to, samples.FOURS, ((0, 1),) * 3, 3)

    def test_the_empty_run(self):
        for machine in samples.ALL:
            self.assertEqual(states_come(machine, ()), (0,))
            self.assertEqual(answers_come(machine, ()), (takes(machine, ()),))
            self.assertEqual(weaving_to(machine, (), 0), ())
            self.assertRaises(CanNot, weaving_to, machine, (), 1)

    def test_a_letter_that_the_machine_has_not_is_told_first_of_all(self):
        for run, letter in ((((0, 3), (1, 4)), 3), (((1, 1), (0, 5), (0, 3), (0, 0)), 5), (((0, 2), (0, 9)), 9)):
            for call, more in ((states_come, ()), (answers_come, ()), (weaving_to, (77,)), (weaving_to, (0,))):
                with self.assertRaises(NoPlace) as caught:
                    call(samples.LAST, run, *more)
                self.assertEqual(caught.exception.place, letter)

    def test_all_lead_to_one_state_just_if_all_doings_commute(self):
        runs = list(every_run(6, 2))[::7] + DRAWN
        for machine in OF_TWO:
            free = machine in samples.FREE + samples.UNTIDY[1:]
            # What does not commute is parted by some letters ahead of two that cross.
            ahead = [(), ((0, 1), (1, 0)), ((0, 2), (1, 0)), ((0, 1), (0, 2), (1, 0), (1, 0))]
            many = [len(states_come(machine, run)) for run in runs + [own + CROSS for own in ahead]]
            self.assertEqual(max(many) == 1, free, machine)


class CallsTest(unittest.TestCase):
    def test_lists_names_and_nothing_changed(self):
        for run in SOME[:-1]:
            for call in (free_pairs, weaving_count):
                check_calls(self, call, run)
            for side in (0, 1):
                check_calls(self, order_of, run, side)
            for number in (-1, 0, 1, 99):
                check_calls(self, weaving_at, run, number)
            order = weaving_at(run, weaving_count(run) - 1)
            least_one = weaving_at(run, 0)
            check_calls(self, is_weaving, run, order)
            check_calls(self, is_weaving_of, run, least_one, order)
            check_calls(self, is_weaving_of, run, (99,), order)
            check_calls(self, reads, run, order)
            check_calls(self, reads, run, (0, 0))
            check_calls(self, place_of, run, order)
            check_calls(self, otherwise, run, order, least_one)
            check_calls(self, otherwise, run, order, ())
            for machine in (samples.LAST, samples.SPINS, samples.TWICE, samples.LONE):
                check_calls(self, states_come, machine, run)
                check_calls(self, answers_come, machine, run)
                for state in (0, 1, 5):
                    check_calls(self, weaving_to, machine, run, state)


if __name__ == "__main__":
    unittest.main()
