"""[16]: trials of a tale, what comes round, RUNS against PAIRS with a bare road and against one SIDE's order."""

import unittest

import samples
from calls import check_calls, check_no_things
from walks import (
    AT_REST,
    BOTH_BARE,
    COUNT,
    CROSS,
    HEAR,
    LATEST,
    LATER,
    LEAD,
    STUCK,
    History,
    drawn_pairs,
    drawn_runs,
    every_run,
    plain_answers,
    plain_refutes,
    plain_walk,
)
from bothroads.against import is_order_against, order_against, road_against, round_of_trials, trials
from bothroads.bits import bit_pair
from bothroads.errors import CanNot, TooMuch, Unfit
from bothroads.keepers import bare_roads, refutes
from bothroads.law import breach, is_lawful
from bothroads.machines import least
from bothroads.runs import is_at_rest, is_run, puts_of
from bothroads.weavings import order_of, reads, states_come, weaving_count

TALES = [
    ((), (1,), (2,), ()),
    ((2,), (1, 1), (1,), (2, 1)),
    ((), (), (), ()),
    ((1, 2), (), (1,), (2,)),
    ((), (1, 2, 1), (), ()),
    ((2, 2), (2, 1), (1, 1), (1,)),
]
TRIED = [
    (tale, side, low, high) for tale in TALES for side in (0, 1) for low in (1, 2, 3) for high in range(low + 1, 6)
]
LAWLESS = (
    samples.LAWLESS[:2]
    + [samples.TWICE]
    + [
        own
        for own in samples.drawn_machines(120, 161, states=4, letters=2)
        if len(least(own)[0]) < 4 and not is_lawful(own)
    ]
)
THREE = samples.LOCK
PAIRS = drawn_pairs(60, 162, letters=2, stands=9) + [BOTH_BARE[1]]
ONE_BARE = [own for own in PAIRS if bare_roads(own)]


def letters_of(run):
    return tuple([letter for _, letter in run if letter])


class TrialsTest(unittest.TestCase):
    def test_what_is_put_and_taken(self):
        """Beside a plain play: letters put, taken in the order and behind the ones that the document tells."""
        for (x, w, b, y), side, low, high in TRIED:
            first, second, third = trials((x, w, b, y), side, low, high)
            for run in (first, second, third):
                self.assertIs(is_run(run), True)
                self.assertIs(is_at_rest(run), True)
                self.assertEqual([letter for at, letter in puts_of(run) if at == side], list(x + w * high + y))
                self.assertEqual([letter for at, letter in puts_of(run) if at != side], list(b))
            put, take = [[(at, own) for own in word] for at, word in ((side, w), (1 - side, w))], None
            goes = lambda at, word: [(at, own) for own in word] + [(1 - at, 0)] * len(word)
            self.assertEqual(list(first), goes(side, x) + goes(side, w * high) + goes(1 - side, b) + goes(side, y))
            take = [(1 - side, 0)] * len(w)
            between = put[0] * high + take * low + goes(1 - side, b) + take * (high - low)
            self.assertEqual(list(second), goes(side, x) + between + goes(side, y))
            one_by_one = [(side, x), (side, w * low), (1 - side, b), (side, w * (high - low)), (side, y)]
            self.assertEqual(
                list(third), [event for at, word in one_by_one for own in word for event in goes(at, (own,))]
            )

    def test_what_each_side_does(self):
        """One SIDE puts and takes alike in the first two, the other one in the last two."""
        for tale, side, low, high in TRIED:
            first, second, third = trials(tale, side, low, high)
            own = lambda run, at: [event for event in run if event[0] == at]
            self.assertEqual(own(first, side), own(second, side))
            self.assertEqual(own(second, 1 - side), own(third, 1 - side))

    def test_the_first_and_the_third_have_one_weaving(self):
        for tale, side, low, high in TRIED:
            x, w, b, y = tale
            first, _, third = trials(tale, side, low, high)
            self.assertEqual((weaving_count(first), weaving_count(third)), (1, 1))
            self.assertEqual(letters_of(first), x + w * high + b + y)
            self.assertEqual(letters_of(third), x + w * low + b + w * (high - low) + y)

    def test_far(self):
        run = trials(((1,), (1, 2, 1), (2,), (1, 1)), 1, 400, 401)[1]
        self.assertEqual((len(run), is_at_rest(run)), (2 * (1 + 3 * 401 + 1 + 2), True))


class RoundTest(unittest.TestCase):
    def test_beside_where_the_other_one_stands(self):
        found = set()
        for pair in PAIRS:
            for tale in TALES:
                for side in (0, 1):
                    stands = []
                    for many in range(1, 12):
                        puts = [(side, own) for own in tale[0] + tale[1] * many]
                        run = puts + [(1 - side, 0)] * len(puts)
                        stands.append(plain_walk(pair, run)[0][-1][1 - side])
                    high = [at for at in range(11) if stands[at] in stands[:at]][0] + 1
                    low = stands.index(stands[high - 1]) + 1
                    self.assertEqual(round_of_trials(pair, tale, side), (low, high))
                    found.add((low, high))
        self.assertGreater(len(found), 6)

    def test_a_great_keeper(self):
        many = 400
        clock = (
            (True,) * many,
            tuple([(((own + 1) % many, 0),) for own in range(many)]),
            tuple([(((own + 1) % many,),) for own in range(many)]),
        )
        line = ((True,) * many, clock[1], tuple([((min(own + 1, many - 1),),) for own in range(many)]))
        tale = ((1,), (1,), (1,), ())
        self.assertEqual(round_of_trials((clock, clock), tale, 0), (1, 401))
        self.assertEqual(round_of_trials((clock, line), tale, 0), (398, 399))
        self.assertEqual(round_of_trials((clock, line), tale, 1), (1, 401))
        self.assertEqual(round_of_trials((clock, clock), ((), (1,) * 8, (), ()), 0), (1, 51))

    def test_marks_of_the_one_that_puts_count(self):
        # HEAR goes on by the marks that LEAD sends: by its own STAND, not by what it heard alone.
        self.assertEqual(round_of_trials((LEAD, HEAR), ((), (1,), (), ()), 0), (1, 3))
        self.assertEqual(round_of_trials((HEAR, LEAD), ((), (1,), (), ()), 1), (1, 3))
        self.assertEqual(round_of_trials((STUCK, STUCK), ((), (1,), (), ()), 0), (1, 2))

    def test_letters_that_pair_has_not(self):
        for at in range(4):
            for word in ((2,), (1, 1, 2), (9, 1)):
                tale = tuple([word if own == at else (1,) for own in range(4)])
                for side in (0, 1):
                    self.assertRaises(Unfit, round_of_trials, (COUNT, COUNT), tale, side)
                    if max(word) > 2:
                        self.assertRaises(Unfit, round_of_trials, (LATEST, LATEST), tale, side)
                    else:
                        self.assertEqual(len(round_of_trials((LATEST, LATEST), tale, side)), 2)


class RoadTest(unittest.TestCase):
    def test_it_refutes(self):
        sides = [0, 0]
        for pair in ONE_BARE:
            for machine in LAWLESS:
                if len(machine[0][0]) == 2:
                    for side in bare_roads(pair):
                        run = road_against(pair, machine, side)
                        self.assertIs(refutes(pair, machine, run), True)
                        sides[side] += 1
        self.assertGreater(min(sides), 100)

    def test_short_ones_beside_all_weavings(self):
        plain = 0
        for pair in ONE_BARE:
            for machine in LAWLESS:
                if len(machine[0][0]) == 2:
                    run = road_against(pair, machine, bare_roads(pair)[0])
                    if len(run) <= 14:
                        plain += 1
                        self.assertIs(plain_refutes(pair, machine, run), True)
        self.assertGreater(plain, 20)

    def test_three_letters(self):
        for pair in drawn_pairs(20, 163, letters=3, stands=6):
            for side in bare_roads(pair):
                self.assertIs(refutes(pair, THREE, road_against(pair, THREE, side)), True)

    def test_what_the_trials_tell(self):
        """The other SIDE stands alike behind the last two, the one that puts behind the first two: so one refutes."""
        for pair in ONE_BARE:
            side = bare_roads(pair)[0]
            for machine in LAWLESS[:6]:
                if len(machine[0][0]) == 2:
                    tale = breach(machine)
                    runs = trials(tale, side, *round_of_trials(pair, tale, side))
                    stands = [plain_walk(pair, run)[0][-1] for run in runs]
                    self.assertEqual(stands[0][side], stands[1][side])
                    self.assertEqual(stands[1][1 - side], stands[2][1 - side])
                    self.assertIn(True, [refutes(pair, machine, run) for run in runs])
                    self.assertEqual(len(states_come(machine, runs[0])), 1)

    def test_whose_letters_go_bare(self):
        # LEAD's letters tell marks, HEAR's go bare.
        free = (((1,), (0,)), (0,))
        self.assertEqual(bare_roads((LEAD, HEAR)), (1,))
        self.assertRaises(Unfit, road_against, (LEAD, HEAR), free, 0)
        self.assertRaises(CanNot, road_against, (LEAD, HEAR), free, 1)
        for machine in LAWLESS[:3]:
            for side in (0, 1):
                self.assertRaises(Unfit, road_against, bit_pair(machine), machine, side)


class OrderTest(unittest.TestCase):
    def test_some_answer_is_not_for_that_order(self):
        machines = [own for own in LAWLESS if len(own[0][0]) == 2]
        self.assertGreater(len(machines), 8)
        for machine in machines:
            for pair in PAIRS + [bit_pair(machine)]:
                for side in (0, 1):
                    run = order_against(pair, machine, side)
                    self.assertIs(is_at_rest(run), True)
                    letters = History(run).letters(History(run).known[side])
                    told = samples.plain_takes(machine, letters)
                    self.assertNotEqual(plain_answers(pair, run), (told, told))
                    self.assertIs(is_order_against(pair, machine, side, run), True)

    def test_is_order_against_beside_the_document(self):
        told = {True: 0, False: 0}
        runs = [own for own in every_run(6, 2) if is_at_rest(own)][::7] + AT_REST[:2] + AT_REST[4:]
        for machine in [samples.LAST, samples.IN_TURN, samples.BEGINS, samples.TWO_ODD]:
            for pair in PAIRS[::4]:
                for side in (0, 1):
                    for run in runs:
                        order = order_of(run, side)
                        taken = samples.plain_takes(machine, reads(run, order))
                        plain = plain_answers(pair, run) != (taken, taken)
                        self.assertIs(is_order_against(pair, machine, side, run), plain)
                        told[plain] += 1
        self.assertGreater(min(told.values()), 500)

    def test_things(self):
        pair = (LATEST, LATEST)
        check_no_things(self, lambda thing: is_order_against(pair, samples.LAST, 1, thing), CROSS)
        for thing in (
            (),
            LATER,
            CROSS[:3],
            ((0, 1), (1, 0)),
            ((0, 3), (1, 2), (0, 0), (1, 0)),
            ((0, 1), (1, 2), (0, 0), (1, 0), (1, 0)),
            list(CROSS),
            tuple([list(own) for own in CROSS]),
        ):
            self.assertIs(is_order_against(pair, samples.LAST, 1, thing), False, thing)
        self.assertIs(is_order_against((STUCK, STUCK), samples.LONE, 0, ()), True)
        self.assertIs(is_order_against((STUCK, STUCK), (((0,),), ()), 0, ((0, 1), (1, 0)) * 20000), False)

    def test_no_bound_of_doings(self):
        for machine in samples.ABOVE_48:
            many = len(machine[0][0])
            never = ((False,), (((0, 0),) * many,), (((0,),) * many,))
            taken = 0 in machine[1]
            self.assertIs(is_order_against((never, never), machine, 0, ()), taken)


class ChecksTest(unittest.TestCase):
    def test_unlike_many_letters_ahead_of_all(self):
        pair = (COUNT, COUNT)
        for machine in samples.LAWLESS + samples.ABOVE_48[:2] + [samples.BEGINS]:
            for side in (0, 1):
                self.assertRaises(Unfit, road_against, pair, machine, side)
                self.assertRaises(Unfit, order_against, pair, machine, side)
                for thing in ((), None, CROSS, [], "run"):
                    self.assertRaises(Unfit, is_order_against, pair, machine, side, thing)

    def test_not_bare_ahead_of_too_much_ahead_of_lawful(self):
        above = samples.ABOVE_48[0]
        marked = (((True,), (((0, 1), (0, 0)),), (((0, 0), (0, 0)),)),) * 2
        bare = (LATEST, LATEST)
        for side in (0, 1):
            self.assertRaises(Unfit, road_against, marked, above, side)
            self.assertRaises(Unfit, road_against, marked, samples.BEGINS, side)
            self.assertRaises(Unfit, road_against, marked, samples.LAST, side)
            self.assertRaises(TooMuch, road_against, bare, above, side)
            self.assertRaises(TooMuch, order_against, bare, above, side)
            self.assertRaises(TooMuch, order_against, marked, above, side)
            for machine in samples.LAWFUL + samples.GROUPS[:2] + [samples.LIGHT]:
                self.assertRaises(CanNot, road_against, bare, machine, side)
                self.assertRaises(CanNot, order_against, bare, machine, side)
                self.assertRaises(CanNot, order_against, marked, machine, side)
        cycle = samples.ABOVE_48[2]
        for side in (0, 1):
            self.assertRaises(TooMuch, road_against, (COUNT, COUNT), cycle, side)
            self.assertRaises(TooMuch, order_against, (COUNT, COUNT), cycle, side)

    def test_just_48(self):
        self.assertRaises(CanNot, road_against, (COUNT, COUNT), samples.JUST_48[2], 0)
        for machine in samples.JUST_48[:1]:
            self.assertIs(is_lawful(machine), False)
            self.assertIs(refutes((LATEST, LATEST), machine, road_against((LATEST, LATEST), machine, 1)), True)


class CallsTest(unittest.TestCase):
    def test_lists_names_and_nothing_changed(self):
        pair = (LATEST, LATEST)
        for tale in TALES[:3]:
            check_calls(self, trials, tale, 1, 2, 4)
            check_calls(self, round_of_trials, pair, tale, 0)
        check_calls(self, round_of_trials, (COUNT, COUNT), TALES[0], 0)
        for machine in (samples.LAST, samples.BEGINS, samples.ODD, samples.ABOVE_48[0]):
            check_calls(self, road_against, pair, machine, 0)
            check_calls(self, order_against, pair, machine, 1)
            for thing in (CROSS, list(CROSS), (), None):
                check_calls(self, is_order_against, pair, machine, 0, thing)


if __name__ == "__main__":
    unittest.main()
