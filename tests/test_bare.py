"""[11]: CROSSINGS, their RUNS, PAIRS with both roads bare."""

import random
import unittest

import samples
from calls import check_calls, check_no_things, nests
from walks import BOTH_BARE, COUNT, CROSS, HEAR, LATEST, LEAD, ONE_BARE, STUCK, drawn_keeper, drawn_runs, every_run
from bothroads.bare import bare_against, bare_pair, bare_refuting, crossing_of, crossing_runs, is_bare_right, is_crossing
from bothroads.doings import commutes, crossed
from bothroads.errors import CanNot, TooMuch, Unfit
from bothroads.keepers import bare_roads, is_pair, refutes, stands_behind
from bothroads.machines import least, letters_in
from bothroads.runs import is_at_rest, is_run, puts_of, settled
from bothroads.weavings import reads, weaving_at, weaving_count

DRAWN = [
    own for own in samples.drawn_machines(60, 61, states=3) if len(samples.plain_doings(samples.plain_least(own))) < 13
]
FREE = samples.FREE + samples.UNTIDY[1:] + [own for own in DRAWN if commutes(own)]
CROSSED = samples.LAWFUL + samples.GROUPS + samples.LAWLESS + samples.UNTIDY[:1] + [own for own in DRAWN if not commutes(own)]


def machine_keeper(machine):
    """Give the KEEPER that goes on as machine itself does and tells nothing."""
    steps, ends = machine
    sent = tuple([tuple([(own, 0) for own in row]) for row in steps])
    return tuple([own in ends for own in range(len(steps))]), sent, tuple([tuple([(own,) for own in row]) for row in steps])


def drawn_bare_pairs(many, seed, letters, stands=3):
    draw = random.Random(seed)
    return [
        tuple([drawn_keeper(draw, draw.randint(1, stands), letters, 1, 1) for _ in range(2)]) for _ in range(many)
    ]


def plain_crossing(machine, longest):
    """Search the CROSSING with the least letters that do not commute, then the fewest letters, then the least."""
    one, other = crossed(machine)
    pair = samples.plain_surroundings(machine, (one, other), (other, one), longest)
    return (pair[0], one, other, pair[1])


class CrossingTest(unittest.TestCase):
    def test_beside_a_plain_search(self):
        for machine in CROSSED:
            if machine is not samples.CUBE:
                self.assertEqual(crossing_of(machine), plain_crossing(machine, 4), machine)

    def test_it_is_one(self):
        for machine in CROSSED + samples.JUST_48[:2]:
            self.assertIs(is_crossing(machine, crossing_of(machine)), True)

    def test_none_if_all_commute(self):
        for machine in FREE + [samples.JUST_48[2]]:
            self.assertRaises(CanNot, crossing_of, machine)
            letters = letters_in(machine)
            for ahead in samples.words_to(2, letters):
                for behind in samples.words_to(1, letters):
                    for one in range(1, letters + 1):
                        for other in range(1, letters + 1):
                            self.assertIs(is_crossing(machine, (ahead, one, other, behind)), False)

    def test_short_ones_beside_what_is_taken(self):
        for machine in CROSSED[:7] + CROSSED[-5:]:
            letters = letters_in(machine)
            for ahead in samples.words_to(1, letters):
                for behind in samples.words_to(1, letters):
                    for one in range(1, letters + 1):
                        for other in range(1, letters + 1):
                            plain = samples.plain_takes(machine, ahead + (one, other) + behind) != samples.plain_takes(
                                machine, ahead + (other, one) + behind
                            )
                            self.assertIs(is_crossing(machine, (ahead, one, other, behind)), plain)

    def test_more_than_48_doings(self):
        for machine in samples.ABOVE_48:
            self.assertRaises(TooMuch, crossing_of, machine)
            self.assertRaises(TooMuch, bare_pair, machine)
        # Not asked in these.
        ring, great = samples.ABOVE_48[2], samples.ABOVE_48[0]
        self.assertIs(is_crossing(ring, ((), 1, 1, ())), False)
        self.assertRaises(Unfit, crossing_runs, ring, ((), 1, 1, ()))
        self.assertIs(is_crossing(great, ((), 1, 2, ())), True)
        self.assertEqual(len(crossing_runs(great, ((), 1, 2, ()))), 3)

    def test_things(self):
        for machine, good in (
            (samples.LAST, ((2,), 2, 1, ())),
            (samples.SPINS, ((), 1, 2, (1,))),
            (samples.BEGINS, ((), 1, 2, (2, 1))),
        ):
            check_no_things(self, lambda thing: is_crossing(machine, thing), good)
        for thing in (
            ((), 1, 2),
            ((), 1, 2, (), ()),
            ((), (1,), 2, ()),
            ((), 1, 3, ()),
            ((), 0, 1, ()),
            ((), 1, 1, ()),
            ((3,), 1, 2, ()),
            ((), 1, 2, (3,)),
            ((0,), 1, 2, ()),
            ((), 1, 2, (1,)),
            ((), True, 2, ()),
            ((), 2, True, ()),
            ((True,), 1, 2, ()),
            [(), 1, 2, ()],
            ([], 1, 2, ()),
            ((), 1, 2, []),
        ):
            self.assertIs(is_crossing(samples.LAST, thing), False, thing)
        self.assertIs(is_crossing(samples.LAST, ((1, 2) * 20000, 1, 2, ())), True)
        self.assertIs(is_crossing(samples.LAST, ((), 1, 2, (1, 2) * 20000)), False)
        self.assertIs(is_crossing(samples.LAST, ((), 10 ** 400, 2, ())), False)


class CrossingRunsTest(unittest.TestCase):
    def test_as_the_document_tells_them(self):
        self.assertEqual(
            crossing_runs(samples.LAST, ((1, 2), 2, 1, ())),
            tuple(
                [
                    ((0, 1), (0, 2), (1, 0), (1, 0)) + between
                    for between in (
                        ((0, 2), (1, 1), (0, 0), (1, 0)),
                        ((0, 2), (1, 0), (1, 1), (0, 0)),
                        ((1, 1), (0, 0), (0, 2), (1, 0)),
                    )
                ]
            ),
        )
        behind = ((0, 2), (0, 1), (1, 0), (1, 0))
        self.assertEqual(
            crossing_runs(samples.BEGINS, ((), 1, 2, (2, 1))),
            (
                ((0, 1), (1, 2), (0, 0), (1, 0)) + behind,
                ((0, 1), (1, 0), (1, 2), (0, 0)) + behind,
                ((1, 2), (0, 0), (0, 1), (1, 0)) + behind,
            ),
        )

    def test_guarantees(self):
        for machine in CROSSED:
            crossing = crossing_of(machine)
            ahead, one, other, behind = crossing
            runs = crossing_runs(machine, crossing)
            for run in runs:
                self.assertIs(is_run(run), True)
                self.assertIs(is_at_rest(run), True)
            words = [ahead + (one, other) + behind, ahead + (other, one) + behind]
            self.assertEqual([weaving_count(run) for run in runs], [2, 1, 1])
            for run, word in zip(runs[1:], words):
                self.assertEqual(reads(run, weaving_at(run, 0)), word)
            for pair in drawn_bare_pairs(8, 62, letters_in(machine)):
                stands = [stands_behind(pair, run) for run in runs]
                self.assertEqual(stands[0][0], stands[1][0])
                self.assertEqual(stands[0][1], stands[2][1])
                self.assertIs(any([refutes(pair, machine, run) for run in runs]), True)

    def test_what_is_no_crossing(self):
        for crossing in (
            ((), 1, 1, ()),
            ((), 1, 2, (1,)),
            ((), 1, 3, ()),
            ((3,), 1, 2, ()),
            ((), 1, 2),
            ((), 0, 2, ()),
            ((), 1, 2, None),
            (),
            None,
            0,
            "x",
            ((), True, 2, ()),
        ):
            self.assertRaises(Unfit, crossing_runs, samples.LAST, crossing)
            self.assertRaises(Unfit, crossing_runs, samples.ODD, crossing)
        for nest in nests():
            self.assertRaises(Unfit, crossing_runs, samples.LAST, nest)


class BarePairTest(unittest.TestCase):
    def test_goes_on_as_the_least_machine_does(self):
        for machine in FREE:
            keeper = machine_keeper(samples.plain_least(machine))
            self.assertEqual(repr(bare_pair(machine)), repr((keeper, keeper)))
            self.assertIs(is_pair(bare_pair(machine)), True)
            self.assertEqual(bare_roads(bare_pair(machine)), (0, 1))

    def test_none_if_not_all_commute(self):
        for machine in CROSSED:
            self.assertRaises(CanNot, bare_pair, machine)

    def test_it_is_right(self):
        for machine in FREE:
            pair = bare_pair(machine)
            self.assertIs(is_bare_right(pair, machine), True)
            self.assertRaises(CanNot, bare_against, pair, machine)
            for run in drawn_runs(20, 63, events=30, letters=letters_in(machine)):
                self.assertIs(refutes(pair, machine, settled(run)), False)

    def test_just_48_doings(self):
        ring = samples.JUST_48[2]
        self.assertEqual(len(bare_pair(ring)[0][0]), 48)
        self.assertIs(is_bare_right(bare_pair(ring), ring), True)


class RightTest(unittest.TestCase):
    def test_beside_a_search_over_runs(self):
        runs = [run for run in every_run(6, 1) if is_at_rest(run)]
        told = []
        for pair in drawn_bare_pairs(40, 64, 1, stands=2) + [(COUNT, COUNT), (STUCK, COUNT), (COUNT, STUCK)]:
            for machine in (samples.ODD, samples.LONE, samples.FOURS, (((1,), (1,)), (1,))):
                # With 2 STANDS and 2 STATES 3 letters come to all that can be.
                found = [run for run in runs if refutes(pair, machine, run)]
                self.check(pair, machine, found == [])
                told.append(found == [])
        self.assertEqual(set(told), {True, False})

    def check(self, pair, machine, right):
        self.assertIs(is_bare_right(pair, machine), right, (pair, machine))
        if right:
            self.assertRaises(CanNot, bare_against, pair, machine)
        else:
            run = bare_against(pair, machine)
            self.assertIs(is_run(run), True)
            self.assertIs(refutes(pair, machine, run), True)
        self.assertEqual(len(bare_refuting(pair, machine)) == 0, right)

    def test_two_letters_beside_a_search(self):
        runs = [run for run in every_run(5, 2) if is_at_rest(run)]
        for machine in [own for own in FREE + CROSSED if letters_in(own) == 2]:
            for pair in drawn_bare_pairs(12, 65, 2) + [(LATEST, LATEST)]:
                right = is_bare_right(pair, machine)
                self.check(pair, machine, right)
                if right:
                    self.assertEqual([run for run in runs if refutes(pair, machine, run)], [])

    def test_pairs_that_are_right_but_are_not_the_bare_pair(self):
        for machine in FREE:
            whole, small = machine_keeper(machine), machine_keeper(least(machine))
            for pair in ((whole, whole), (whole, small), (small, whole)):
                self.check(pair, machine, True)

    def test_one_side_or_one_way_alone_is_wrong(self):
        # Goes wrong only by what it puts, only by what it takes, only far on.
        puts = ((False, True), (((1, 0),), ((1, 0),)), (((1,),), ((0,),)))
        takes = ((False, True), (((1, 0),), ((0, 0),)), (((1,),), ((1,),)))
        far = machine_keeper((tuple([(own + 1 if own < 11 else 0,) for own in range(12)]), (1, 3, 5, 7, 9)))
        for bad in (puts, takes, far):
            for pair in ((bad, COUNT), (COUNT, bad), (bad, bad)):
                self.check(pair, samples.ODD, False)

    def test_none_is_right_with_a_crossing(self):
        for machine in CROSSED:
            whole, small = machine_keeper(machine), machine_keeper(least(machine))
            for pair in [(whole, whole), (whole, small)] + drawn_bare_pairs(5, 66, letters_in(machine)):
                self.check(pair, machine, False)

    def test_a_right_one_has_as_many_stands_as_the_least_machine_states(self):
        right = 0
        for machine in [own for own in FREE if letters_in(own) == 1]:
            for pair in drawn_bare_pairs(120, 67, 1, stands=3):
                if is_bare_right(pair, machine):
                    right += 1
                    self.assertGreaterEqual(min([len(keeper[0]) for keeper in pair]), len(least(machine)[0]))
        self.assertGreater(right, 10)

    def test_alike_machines(self):
        for pair in drawn_bare_pairs(30, 68, 1):
            self.assertIs(is_bare_right(pair, samples.FOURS), is_bare_right(pair, samples.ODD))

    def test_great_pairs(self):
        ring = machine_keeper((tuple([((own + 1) % 400,) for own in range(400)]), tuple(range(1, 400, 2))))
        self.check((ring, ring), samples.ODD, True)
        odd = (ring[0][:399] + (False,),) + ring[1:]
        self.check((ring, odd), samples.ODD, False)
        self.assertEqual(len(puts_of(bare_against((ring, odd), samples.ODD))), 399)


class ChecksTest(unittest.TestCase):
    def test_in_their_order(self):
        ring = samples.ABOVE_48[2]
        for call in (is_bare_right, bare_against):
            # Unlike many letters, ahead of all.
            self.assertRaises(Unfit, call, (COUNT, COUNT), samples.LAST)
            self.assertRaises(Unfit, call, (LATEST, LATEST), ring)
            # Then too many DOINGS, also where roads are not bare.
            for pair in ((COUNT, COUNT), (LEAD, HEAR), (HEAR, HEAR)):
                self.assertRaises(TooMuch, call, pair, ring)
            # Then roads that are not bare.
            for pair in ONE_BARE + [(HEAR, HEAR)]:
                self.assertRaises(Unfit, call, pair, samples.ODD)

    def test_pairs_with_both_roads_bare_are_let(self):
        for pair in BOTH_BARE:
            if len(pair[0][1][0]) == len(pair[1][1][0]) == 1:
                self.assertIn(is_bare_right(pair, samples.ODD), (True, False))
        self.assertIs(is_bare_right((COUNT, COUNT), samples.ODD), True)
        self.assertIs(is_bare_right((STUCK, STUCK), (((0,),), ())), True)


class CallsTest(unittest.TestCase):
    def test_lists_names_and_nothing_changed(self):
        for machine in FREE[:4] + CROSSED[:4] + samples.ABOVE_48[:1]:
            check_calls(self, crossing_of, machine)
            check_calls(self, bare_pair, machine)
            for crossing in (((), 1, 2, ()), ((1,), 2, 1, (2, 2)), ((), 1, 1, ())):
                check_calls(self, is_crossing, machine, crossing)
                check_calls(self, crossing_runs, machine, crossing)
            for pair in BOTH_BARE + ONE_BARE + [bare_pair(samples.ODD)]:
                check_calls(self, is_bare_right, pair, machine)
                check_calls(self, bare_against, pair, machine)
        self.assertIs(is_crossing(samples.LAST, [[], 1, 2, []]), False)
        self.assertEqual(crossing_runs(samples.LAST, [[], 1, 2, []]), crossing_runs(samples.LAST, ((), 1, 2, ())))
        self.assertIs(refutes((LATEST, LATEST), samples.LAST, CROSS), True)


if __name__ == "__main__":
    unittest.main()
