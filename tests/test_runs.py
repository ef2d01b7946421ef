"""[3] and [6]: RUNS, what is on roads, what PUTS have seen, what SIDES know."""

import itertools
import unittest

import samples
from calls import check_calls, check_no_things
from walks import AT_REST, CROSS, EMPTY, MEET, ONE_SIDED, OPEN, SOME, TO_BOTH, TO_ONE, History, drawn_runs, every_run
from bothroads.errors import NoPlace
from bothroads.runs import can_take, exchanged, is_at_rest, is_run, known, puts_of, roads, seen, settled

SHORT = list(every_run(5, 2))
DRAWN = drawn_runs(60, 11, events=30, letters=3)
ALL = SHORT + SOME + DRAWN + [OPEN]


class IsRunTest(unittest.TestCase):
    def test_beside_all_short_tuples_of_events(self):
        events = list(itertools.product((0, 1), (0, 1, 2)))
        good = set(every_run(4, 2))
        many = 0
        for length in range(5):
            for thing in itertools.product(events, repeat=length):
                self.assertIs(is_run(thing), thing in good, thing)
                many += thing in good
        self.assertEqual(many, len(good))
        self.assertGreater(many, 400)

    def test_runs(self):
        for thing in ALL:
            self.assertIs(is_run(thing), True, thing)

    def test_however_many_events_and_whatever_letters(self):
        for thing in (
            ((0, 4),),
            ((1, 10 ** 400), (0, 0)),
            ((0, 1),) * 61,
            ((0, 1), (1, 0)) * 20000,
            ((0, 1),) * 20000 + ((1, 0),) * 20000,
            tuple([(own % 2, own + 1) for own in range(5000)]),
        ):
            self.assertIs(is_run(thing), True)

    def test_a_take_from_an_empty_road(self):
        for thing in (
            ((0, 0),),
            ((1, 0),),
            ((0, 1), (0, 0)),
            ((1, 1), (1, 0)),
            ((0, 1), (1, 0), (1, 0)),
            ((0, 0), (1, 1)),
            ((0, 1), (0, 1), (0, 0), (1, 0)),
            ((0, 1), (1, 1), (1, 0), (1, 0)),
            ((0, 1),) * 20000 + ((1, 0),) * 20001,
        ):
            self.assertIs(is_run(thing), False)

    def test_no_runs(self):
        for thing in (
            ((2, 1),),
            ((-1, 1),),
            ((0, -1),),
            ((0, 1), (1, -1)),
            ((0,),),
            ((0, 1, 1),),
            ((),),
            (0, 1),
            ((0, 1), 1),
            ((0, 1), ()),
            ((0, 1), None),
            (((0, 1),),),
            ((0, (1,)),),
            ((0, 1), [1, 0]),
            [(0, 1)],
            [],
            ((False, 1),),
            ((True, 1),),
            ((0, True),),
            ((0, 1), (1, False)),
            ((None, 1),),
            ((0, None),),
            (("0", 1),),
            ((0, "1"),),
            ("01",),
            "01",
        ):
            self.assertIs(is_run(thing), False, thing)

    def test_what_is_spoilt(self):
        for good in (MEET, CROSS, ((1, 7),), ((0, 1), (1, 0))):
            check_no_things(self, is_run, good)
        self.assertIs(is_run(EMPTY), True)
        self.assertIs(is_run([]), False)


class AlongTest(unittest.TestCase):
    def test_roads_beside_a_plain_walk(self):
        for run in ALL:
            plain = History(run)
            told = tuple([plain.letters(own) for own in plain.roads])
            self.assertEqual(roads(run), told, run)
            self.assertIs(is_at_rest(run), told == ((), ()))
            for side in (0, 1):
                self.assertIs(can_take(run, side), told[side] != ())

    def test_who_can_take_goes_on_with_a_run(self):
        for run in SHORT:
            for side in (0, 1):
                self.assertIs(is_run(run + ((side, 0),)), can_take(run, side))

    def test_at_rest_and_under_way(self):
        for run in AT_REST + ONE_SIDED[1:]:
            self.assertIs(is_at_rest(run), True)
        for run in TO_ONE:
            self.assertEqual(sorted([can_take(run, 0), can_take(run, 1)]), [False, True])
        for run in TO_BOTH:
            self.assertEqual((can_take(run, 0), can_take(run, 1)), (True, True))
        self.assertEqual(roads(((1, 2), (1, 3), (0, 0), (1, 1))), ((3, 1), ()))

    def test_puts_seen_and_known_beside_a_plain_walk(self):
        for run in ALL:
            plain = History(run)
            self.assertEqual(puts_of(run), tuple(plain.puts))
            for number in range(len(plain.puts)):
                self.assertEqual(seen(run, number), tuple(plain.seen[number]), run)
            for side in (0, 1):
                self.assertEqual(known(run, side), tuple(sorted(plain.known[side])))

    def test_no_such_put(self):
        for run in [EMPTY] + SOME:
            many = len(puts_of(run))
            for number in (-1, -many, many, many + 1, 10 ** 30, -(10 ** 30)):
                if not 0 <= number < many:
                    with self.assertRaises(NoPlace) as caught:
                        seen(run, number)
                    self.assertEqual(caught.exception.place, number)

    def test_the_empty_run(self):
        self.assertEqual((roads(()), puts_of(()), settled(()), exchanged(())), (((), ()), (), (), ()))
        self.assertEqual((known((), 0), known((), 1)), ((), ()))
        self.assertEqual((is_at_rest(()), can_take((), 0), can_take((), 1)), (True, False, False))

    def test_one_sides_puts_alone(self):
        run = ((0, 1), (0, 2), (0, 1), (1, 0))
        self.assertEqual([seen(run, own) for own in range(3)], [(), (0,), (0, 1)])
        self.assertEqual((known(run, 0), known(run, 1)), ((0, 1, 2), (0,)))


class GuaranteesTest(unittest.TestCase):
    def test_events_behind_change_nothing(self):
        for run in SHORT:
            told = [seen(run, own) for own in range(len(puts_of(run)))]
            for event in ((0, 1), (1, 2), (0, 0), (1, 0)):
                longer = run + (event,)
                if is_run(longer):
                    self.assertEqual(puts_of(longer)[: len(told)], puts_of(run))
                    self.assertEqual([seen(longer, own) for own in range(len(told))], told)

    def test_seen_is_handed_on_and_is_the_first_ones_of_each_side(self):
        for run in SHORT + DRAWN:
            puts = puts_of(run)
            for number in range(len(puts)):
                told = seen(run, number)
                for elder in told:
                    self.assertLessEqual(set(seen(run, elder)), set(told))
                for side in (0, 1):
                    of_side = [own for own in range(len(puts)) if puts[own][0] == side]
                    there = [own for own in told if puts[own][0] == side]
                    self.assertEqual(there, of_side[: len(there)])

    def test_settled(self):
        for run in ALL:
            rest = settled(run)
            to_first, to_second = roads(run)
            self.assertEqual(rest, run + ((0, 0),) * len(to_first) + ((1, 0),) * len(to_second))
            self.assertIs(is_run(rest), True)
            self.assertIs(is_at_rest(rest), True)
            self.assertEqual(puts_of(rest), puts_of(run))
            every = tuple(range(len(puts_of(run))))
            self.assertEqual((known(rest, 0), known(rest, 1)), (every, every))
            self.assertEqual([seen(rest, own) for own in every], [seen(run, own) for own in every])
            self.assertEqual(settled(rest), rest)

    def test_exchanged(self):
        for run in ALL:
            other = exchanged(run)
            self.assertIs(is_run(other), True)
            self.assertEqual(exchanged(other), run)
            self.assertEqual(puts_of(other), tuple([(1 - side, letter) for side, letter in puts_of(run)]))
            self.assertEqual(roads(other), roads(run)[::-1])
            for own in range(len(puts_of(run))):
                self.assertEqual(seen(other, own), seen(run, own))
            for side in (0, 1):
                self.assertEqual(known(other, side), known(run, 1 - side))


class CallsTest(unittest.TestCase):
    def test_lists_names_and_nothing_changed(self):
        for run in SOME + DRAWN[:10]:
            for call in (roads, is_at_rest, puts_of, settled, exchanged):
                check_calls(self, call, run)
            for side in (0, 1):
                check_calls(self, can_take, run, side)
                check_calls(self, known, run, side)
            for number in (-1, 0, 1, 2, 99):
                check_calls(self, seen, run, number)
            check_calls(self, is_run, run)
            check_calls(self, is_run, samples.listed(run))


if __name__ == "__main__":
    unittest.main()
