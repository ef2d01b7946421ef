"""[3] and [8]: KEEPERS, PAIRS, where they stand along RUNS, what refutes them."""

import unittest

import samples
from calls import check_calls, check_no_things
from walks import (
    AT_REST,
    BOTH_BARE,
    COUNT,
    CROSS,
    HEAR,
    LATEST,
    LEAD,
    ONE_BARE,
    ONE_SIDED,
    OPEN,
    SOME,
    STUCK,
    TO_BOTH,
    TO_ONE,
    History,
    drawn_pairs,
    drawn_runs,
    every_run,
    plain_answers,
    plain_refutes,
    plain_walk,
)
from bothroads.errors import Unfit
from bothroads.keepers import (
    answers,
    bare_roads,
    is_keeper,
    is_pair,
    letters_of,
    marks_of,
    marks_sent,
    refutes,
    stands_along,
    stands_behind,
)
from bothroads.machines import least
from bothroads.runs import exchanged, puts_of, settled

OF_ONE = drawn_pairs(40, 31, letters=1)
OF_TWO = drawn_pairs(60, 32, letters=2)
OF_THREE = drawn_pairs(10, 33, letters=3, stands=9, marks=5)
PAIRS = OF_ONE + OF_TWO + OF_THREE + BOTH_BARE + ONE_BARE
# One mark, several; one STAND, several; one letter, three.
KEEPERS = [COUNT, LEAD, HEAR, STUCK, LATEST, OF_THREE[0][0], OF_THREE[1][1], ((True,), (((0, 5),),), (((0,) * 9,),))]
RUNS = drawn_runs(60, 34, events=30, letters=3) + SOME
RUNS_OF_ONE = list(every_run(5, 1))
NEVER = ((False,), (((0, 0), (0, 0)),), (((0,), (0,)),))


def runs_for(pair):
    """Give RUNS with letters that pair has alone."""
    return [run for run in RUNS + RUNS_OF_ONE[::5] if max([own for _, own in run], default=1) <= len(pair[0][1][0])]


class ThingsTest(unittest.TestCase):
    def test_keepers(self):
        for thing in KEEPERS + [own for pair in PAIRS for own in pair]:
            self.assertIs(is_keeper(thing), True, thing)

    def test_great_keepers(self):
        many = 3000
        sent = tuple([((own * 7 % many, own), (0, 0)) for own in range(many)])
        heard = tuple([((own, 0, 1), (1, 1, 1)) for own in range(many)])
        keeper = ((True,) * many, sent, heard)
        self.assertIs(is_keeper(keeper), True)
        self.assertIs(is_keeper(((True,) * (many - 1) + (1,), sent, heard)), False)
        self.assertIs(is_keeper(((True,) * many, sent, heard[:-1] + (((0, 0, 0), (0, 0)),))), False)
        self.assertIs(is_keeper(((True,), (((0, 10 ** 400),),), (((0,) * 5000,),))), True)
        self.assertIs(is_pair((keeper, keeper)), False)
        self.assertIs(is_pair((((True,), (((0, 4999),),), (((0,),),)), ((True,), (((0, 0),),), (((0,) * 5000,),)))), True)

    def test_no_keepers(self):
        for thing in (
            (),
            ((), (), ()),
            ((), ((),), ((),)),
            ((True,), ((),), ((),)),
            ((True,), (((0, 0),),), (((),),)),
            ((True,), (((0, 0),),), ((),)),
            ((True,), ((),), (((0,),),)),
            ((True,), (((0, 0),),)),
            ((True,), (((0, 0),),), (((0,),),), ()),
            # More, and fewer, STANDS than answers.
            ((True,), (((0, 0),), ((0, 0),)), (((0,),), ((0,),))),
            ((True, False), (((0, 0),),), (((0,),), ((0,),))),
            ((True, False), (((0, 0),), ((0, 0),)), (((0,),),)),
            # Unlike many letters, unlike many marks.
            ((True,), (((0, 0), (0, 0)),), (((0,),),)),
            ((True,), (((0, 0),),), (((0,), (0,)),)),
            ((True, False), (((0, 0),), ((0, 0), (0, 0))), (((0,),), ((0,),))),
            ((True, False), (((0, 0),), ((0, 0),)), (((0,),), ((0,), (0,)))),
            ((True, False), (((0, 0),), ((0, 0),)), (((0,),), ((0, 0),))),
            ((True,), (((0, 0), (0, 0)),), (((0,), (0, 0)),)),
            ((True,), (((0, 0), (0, 0)),), (((0,), ()),)),
            # STANDS that are none, marks that are none.
            ((True,), (((1, 0),),), (((0,),),)),
            ((True,), (((0, 0),),), (((1,),),)),
            ((True,), (((-1, 0),),), (((0,),),)),
            ((True,), (((0, -1),),), (((0,),),)),
            ((True,), (((0, 0),),), (((-1,),),)),
            # No pairs.
            ((True,), (((0,),),), (((0,),),)),
            ((True,), (((0, 0, 0),),), (((0,),),)),
            ((True,), (((),),), (((0,),),)),
            ((True,), ((0,),), (((0,),),)),
            ((True,), (((0, 0),),), ((0,),)),
            # Answers that are none.
            ((1,), (((0, 0),),), (((0,),),)),
            ((0,), (((0, 0),),), (((0,),),)),
            ((None,), (((0, 0),),), (((0,),),)),
            (("yes",), (((0, 0),),), (((0,),),)),
            (True, (((0, 0),),), (((0,),),)),
        ):
            self.assertIs(is_keeper(thing), False, thing)
            self.assertIs(is_pair((thing, COUNT)), False)
            self.assertIs(is_pair((COUNT, thing)), False)

    def test_pairs(self):
        for thing in PAIRS:
            self.assertIs(is_pair(thing), True, thing)
            self.assertIs(is_pair(thing[::-1]), True, thing)
        self.assertIs(is_pair((STUCK, STUCK)), True)

    def test_no_pairs(self):
        for thing in (
            (COUNT,),
            (COUNT, COUNT, COUNT),
            [COUNT, COUNT],
            COUNT,
            # Unlike many letters; marks that the other one does not take, at STANDS come to or not.
            (COUNT, LATEST),
            (LATEST, COUNT),
            (LEAD, LEAD),
            (LEAD, COUNT),
            (COUNT, LEAD),
            (((False, True), (((0, 0),), ((0, 1),)), (((0,),), ((0,),))), COUNT),
        ):
            self.assertIs(is_pair(thing), False, thing)

    def test_what_is_spoilt(self):
        for keeper in (COUNT, HEAR, LATEST):
            check_no_things(self, is_keeper, keeper)
        for pair in ((COUNT, COUNT), (LEAD, HEAR)):
            check_no_things(self, is_pair, pair)

    def test_letters_and_marks(self):
        for pair in PAIRS:
            for keeper in pair:
                self.assertEqual(letters_of(keeper), len(keeper[1][0]))
                self.assertEqual(marks_of(keeper), len(keeper[2][0][0]))
        self.assertEqual([letters_of(own) for own in (COUNT, LATEST)], [1, 2])
        self.assertEqual([marks_of(own) for own in (LEAD, HEAR)], [1, 2])

    def test_bare_roads(self):
        self.assertEqual([bare_roads(own) for own in BOTH_BARE], [(0, 1)] * 3)
        self.assertEqual([bare_roads(own) for own in ONE_BARE], [(1,), (0,), (1,)])
        self.assertEqual(bare_roads((HEAR, HEAR)), ())
        for pair in PAIRS:
            plain = [side for side in (0, 1) if len(pair[1 - side][2][0][0]) == 1]
            self.assertEqual(bare_roads(pair), tuple(plain))


class AlongTest(unittest.TestCase):
    def test_beside_a_plain_walk(self):
        for pair in PAIRS:
            for run in runs_for(pair):
                along, marks = plain_walk(pair, run)
                self.assertEqual(stands_along(pair, run), along)
                self.assertEqual(stands_behind(pair, run), along[-1])
                self.assertEqual(answers(pair, run), plain_answers(pair, run))
                self.assertEqual(marks_sent(pair, run), marks)

    def test_the_empty_run(self):
        for pair in PAIRS:
            self.assertEqual((stands_along(pair, ()), stands_behind(pair, ()), marks_sent(pair, ())), ([(0, 0)], (0, 0), ()))
            self.assertEqual(answers(pair, ()), (pair[0][0][0], pair[1][0][0]))

    def test_a_letter_that_the_pair_has_not(self):
        for pair in OF_ONE[:5] + BOTH_BARE + OF_TWO[:5]:
            above = len(pair[0][1][0]) + 1
            for run in (((0, above),), ((0, 1), (1, 0), (1, above), (0, 0)), ((1, 1),) * 5 + ((1, 99),)):
                for call in (stands_behind, stands_along, answers, marks_sent):
                    self.assertRaises(Unfit, call, pair, run)

    def test_exchanged(self):
        for pair in PAIRS:
            for run in runs_for(pair)[:40]:
                other = (pair[1], pair[0])
                self.assertEqual(stands_behind(other, exchanged(run)), stands_behind(pair, run)[::-1])
                self.assertEqual(marks_sent(other, exchanged(run)), marks_sent(pair, run))

    def test_where_a_side_stands_hangs_on_what_it_knows(self):
        for pair in OF_ONE[:20] + OF_TWO[:10]:
            told = {}
            for run in RUNS_OF_ONE + [own for own in RUNS if own in runs_for(pair)]:
                plain = History(run)
                marks = marks_sent(pair, run)
                for side in (0, 1):
                    came = [plain.puts[number] + (marks[number],) for number in plain.known[side]]
                    came = tuple([(at, letter, None if at == side else mark) for at, letter, mark in came])
                    stand = stands_behind(pair, run)[side]
                    self.assertEqual(told.setdefault((side, came), stand), stand)


class RefutesTest(unittest.TestCase):
    def test_beside_all_weavings(self):
        refuted = set()
        for pair, machines, runs in (
            [(pair, [samples.ODD, samples.FOURS, samples.LONE], RUNS_OF_ONE) for pair in OF_ONE[::4] + BOTH_BARE[:1]]
            + [(pair, [samples.LAST, samples.BEGINS, samples.SPINS], None) for pair in OF_TWO[::8] + [(LATEST, LATEST)]]
        ):
            told = [settled(run) for run in drawn_runs(30, 35, events=7)] if runs is None else runs
            for machine in machines:
                for run in told:
                    plain = plain_refutes(pair, machine, run)
                    self.assertIs(refutes(pair, machine, run), plain, (pair, machine, run))
                    refuted.add((plain, plain_answers(pair, run)[0] == plain_answers(pair, run)[1]))
        self.assertLessEqual({(True, False), (True, True), (False, True)}, refuted)

    def test_runs_that_are_not_at_rest(self):
        for run in TO_ONE + TO_BOTH + [OPEN]:
            for pair, machine in (((LATEST, LATEST), samples.LAST), ((NEVER, NEVER), samples.LAST)):
                self.assertIs(refutes(pair, machine, run), False)
        self.assertIs(refutes((LATEST, LATEST), samples.LAST, CROSS[:3]), False)
        self.assertIs(refutes((LATEST, LATEST), samples.LAST, CROSS), True)

    def test_unlike_many_letters_ahead_of_all(self):
        for thing in (CROSS, (), None, 0, [], "x", ((0, 0),), ((0, 9),)):
            self.assertRaises(Unfit, refutes, (COUNT, COUNT), samples.LAST, thing)
            self.assertRaises(Unfit, refutes, (LATEST, LATEST), samples.ODD, thing)
            self.assertRaises(Unfit, refutes, (LATEST, LATEST), samples.NEVER, thing)

    def test_a_letter_above_does_not_refute(self):
        never = (STUCK, STUCK)
        self.assertIs(refutes(never, samples.ODD, ((0, 1), (1, 0))), True)
        self.assertIs(refutes(never, samples.ODD, ((0, 2), (1, 0))), False)
        self.assertIs(refutes(never, samples.ODD, ((0, 1), (1, 0), (0, 2), (1, 0))), False)
        self.assertIs(refutes(never, samples.ODD, ((0, 10 ** 400), (1, 0))), False)

    def test_what_is_let(self):
        self.assertIs(refutes((NEVER, NEVER), samples.LAST, CROSS), False)
        self.assertIs(refutes((NEVER, NEVER), samples.LAST, ((0, 2), (1, 0), (1, 1), (0, 0))), True)
        for run in AT_REST[:3] + ONE_SIDED[1:2] + [((0, 1), (1, 0)) * 9]:
            self.assertIs(refutes((COUNT, COUNT), samples.ODD, tuple([(at, min(own, 1)) for at, own in run])), False)

    def test_things(self):
        check_no_things(self, lambda thing: refutes((LATEST, LATEST), samples.LAST, thing), CROSS)
        run = ((0, 1), (1, 0))
        check_no_things(self, lambda thing: refutes((STUCK, STUCK), samples.ODD, thing), run)
        for thing in (((0, 0),), ((0, 1), (1, 0), (1, 0)), ((0, 1), (0, 0)), ((2, 1), (1, 0)), ()):
            self.assertIs(refutes((STUCK, STUCK), samples.ODD, thing), False)

    def test_long_things(self):
        run = ((0, 1), (1, 0), (1, 2), (0, 0)) * 2000
        self.assertIs(refutes((NEVER, NEVER), samples.LAST, run), False)
        self.assertIs(refutes((NEVER, NEVER), samples.LAST, run + ((0, 1), (1, 0))), True)
        crossing = OPEN + ((0, 0), (1, 0)) * 30
        self.assertIs(refutes((NEVER, NEVER), samples.LAST, crossing), False)
        self.assertIs(refutes((NEVER, NEVER), samples.LAST, crossing + ((0, 1), (1, 0))), True)
        self.assertIs(refutes((NEVER, NEVER), samples.LAST, ((0, 1),) * 5000 + ((1, 0),) * 5000), True)

    def test_alike_machines(self):
        alike = [(samples.FOURS, samples.ODD), (samples.TWICE, samples.LAST), (samples.UNCOME, least(samples.UNCOME))]
        for one, other in alike:
            for pair in OF_ONE[:10] + OF_TWO[:10]:
                if len(pair[0][1][0]) == len(one[0][0]):
                    for run in [settled(own) for own in runs_for(pair)[:20]]:
                        if len(puts_of(run)) < 20:
                            self.assertIs(refutes(pair, one, run), refutes(pair, other, run))


class CallsTest(unittest.TestCase):
    def test_lists_names_and_nothing_changed(self):
        for keeper in KEEPERS:
            check_calls(self, letters_of, keeper)
            check_calls(self, marks_of, keeper)
            check_calls(self, is_keeper, keeper)
        for pair in ONE_BARE + BOTH_BARE + OF_TWO[:6]:
            check_calls(self, bare_roads, pair)
            check_calls(self, is_pair, pair)
            for run in RUNS_OF_ONE[::20] + [CROSS]:
                for call in (stands_behind, stands_along, answers, marks_sent):
                    check_calls(self, call, pair, run)
                for machine in (samples.ODD, samples.LAST, samples.TWICE):
                    check_calls(self, refutes, pair, machine, run)


if __name__ == "__main__":
    unittest.main()
