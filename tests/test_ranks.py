"""[9]: ranks, bits, the order by ranks, RUNS with told ranks."""

import itertools
import unittest

import samples
from calls import check_calls, check_no_things
from walks import EMPTY, MEET, ONE_SIDED, OPEN, SOME, TO_ONE, History, PlainRanks, drawn_runs, every_run
from bothroads.errors import CanNot
from bothroads.ranks import (
    bits,
    is_ranked,
    laps,
    moved,
    rank_order,
    rank_weaving,
    ranked_run,
    ranks,
    ranks_now,
    ranks_told,
)
from bothroads.runs import is_run, puts_of, settled
from bothroads.weavings import is_weaving, is_weaving_of

SHORT = list(every_run(7, 1))
DRAWN = drawn_runs(80, 41, events=60, letters=3)
RUNS = SHORT + DRAWN + SOME + [OPEN]


def runs_with(puts):
    """Go through all RUNS with these PUTS in this order, whatever is taken ahead of, between and behind them."""

    def further(run, at, waiting):
        yield run
        if at < len(puts):
            side = puts[at][0]
            more = (waiting[0] + side, waiting[1] + 1 - side)
            yield from further(run + (puts[at],), at + 1, more)
        if waiting[0]:
            yield from further(run + ((0, 0),), at, (waiting[0] - 1, waiting[1]))
        if waiting[1]:
            yield from further(run + ((1, 0),), at, (waiting[0], waiting[1] - 1))

    for run in further((), 0, (0, 0)):
        if sum([letter > 0 for _, letter in run]) == len(puts):
            yield run


def puts_ahead_of_takes(run, side):
    """Give, for each EVENT with which side takes, how many PUTS stand ahead of it."""
    return [
        len([own for _, own in run[:at] if own]) for at, event in enumerate(run) if event == (side, 0)
    ]


class RanksTest(unittest.TestCase):
    def test_beside_a_plain_walk(self):
        for run in RUNS:
            plain = PlainRanks(run)
            self.assertEqual(ranks(run), tuple(plain.told))
            self.assertEqual(ranks_now(run), tuple(plain.now))
            self.assertEqual(bits(run), tuple([rank // 2 % 2 for rank in plain.told]))
            self.assertEqual(rank_weaving(run), plain.by_ranks(range(len(plain.told))))
            for side in (0, 1):
                self.assertEqual(rank_order(run, side), plain.by_ranks(plain.known[side]))
            greater = [len([own for own in known if plain.told[own] > plain.told[at]]) for _, at, _, known in plain.takes]
            self.assertEqual(moved(run), tuple(greater))
            ascending = sorted(set(plain.told))
            self.assertEqual(
                laps(run), tuple([(own, tuple([k for k, rank in enumerate(plain.told) if rank == own])) for own in ascending])
            )

    def test_the_empty_run(self):
        self.assertEqual((ranks(()), bits(()), ranks_now(()), laps(())), ((), (), (0, 1), ()))
        self.assertEqual((rank_weaving(()), rank_order((), 0), rank_order((), 1), moved(())), ((), (), (), ()))

    def test_one_sides_puts_alone(self):
        for run in ONE_SIDED + TO_ONE[:1]:
            if len({side for side, letter in run if letter}) == 1:
                side = [side for side, letter in run if letter][0]
                self.assertEqual(set(ranks(run)), {side})
                self.assertEqual(ranks_now(run), (0, 1))
        self.assertEqual(ranks(((1, 1), (1, 1), (0, 0), (0, 1), (0, 0), (0, 1))), (1, 1, 2, 2))

    def test_a_first_put_may_go_on(self):
        self.assertEqual(ranks(((1, 1), (0, 0), (0, 1))), (1, 2))
        self.assertEqual(bits(((1, 1), (0, 0), (0, 1))), (0, 1))
        # Nothing is above the rank of SIDE 1 in a letter of rank 0.
        self.assertEqual(ranks(((0, 1), (1, 0), (1, 1))), (0, 1))

    def test_far_on(self):
        run = ((1, 1), (0, 0), (0, 1), (1, 0)) * 15
        self.assertEqual(ranks(run), tuple(range(1, 31)))
        self.assertEqual(bits(run)[:6], (0, 1, 1, 0, 0, 1))

    def test_ranks_told(self):
        self.assertEqual(ranks_told(0, ()), ())
        self.assertEqual(ranks_told(1, ()), ())
        self.assertEqual(ranks_told(0, (1, 1, 0, 1, 1, 0)), (2, 2, 4, 6, 6, 8))
        self.assertEqual(ranks_told(1, (0, 0, 1, 0)), (1, 1, 3, 5))
        for run in RUNS:
            told, marks = ranks(run), bits(run)
            for side in (0, 1):
                numbers = [own for own, (at, _) in enumerate(puts_of(run)) if at == side]
                told_bits = tuple([marks[own] for own in numbers])
                self.assertEqual(ranks_told(side, told_bits), tuple([told[own] for own in numbers]))


class GuaranteesTest(unittest.TestCase):
    def test_ranks_of_sides_differ_by_one(self):
        for run in RUNS:
            low, high = ranks_now(run)
            self.assertEqual(abs(low - high), 1)

    def test_ranks_beside_what_is_seen(self):
        for run in RUNS:
            plain, told = History(run), ranks(run)
            for number, (side, _) in enumerate(plain.puts):
                for elder in plain.seen[number]:
                    if plain.puts[elder][0] == side:
                        self.assertLessEqual(told[elder], told[number])
                    else:
                        self.assertLess(told[elder], told[number])

    def test_by_ranks_they_stand_in_a_weaving(self):
        for run in RUNS:
            self.assertIs(is_weaving(run, rank_weaving(run)), True)
            for side in (0, 1):
                order = rank_order(run, side)
                self.assertIs(is_weaving_of(run, tuple(sorted(order)), order), True)
                self.assertEqual(rank_order(settled(run), side), rank_weaving(run))

    def test_what_a_letter_that_is_taken_is_put_ahead_of(self):
        for run in RUNS:
            plain, puts = PlainRanks(run), puts_of(run)
            for (side, number, now, known), many in zip(plain.takes, moved(run)):
                above = [own for own in known if plain.told[own] > plain.told[number]]
                self.assertEqual(len(above), many)
                if plain.told[number] == now - 1:
                    own = [own for own in known if puts[own][0] == side and plain.told[own] == now]
                    self.assertEqual(above, own)
                else:
                    self.assertEqual((plain.told[number], above), (now + 1, []))


class RankedTest(unittest.TestCase):
    def test_beside_a_search_over_all_runs(self):
        for many in range(5):
            for sides in itertools.product((0, 1), repeat=many):
                puts = tuple([(side, at + 1) for at, side in enumerate(sides)])
                found = {}
                for run in runs_with(puts):
                    found.setdefault(tuple(PlainRanks(run).told), []).append(run)
                for told in itertools.product(range(-1, many + 3), repeat=many):
                    self.assertIs(is_ranked(puts, told), told in found, (puts, told))
                    if told in found:
                        self.check_late(ranked_run(puts, told), found[told])
                    else:
                        self.assertRaises(CanNot, ranked_run, puts, told)

    def check_late(self, run, others):
        """Check that run is one of all, that none takes less, and none that takes as little takes any later."""
        self.assertIn(run, others)
        fewest = min([len(own) for own in others])
        self.assertEqual(len(run), fewest)
        for other in [own for own in others if len(own) == fewest]:
            for side in (0, 1):
                late, early = puts_ahead_of_takes(run, side), puts_ahead_of_takes(other, side)
                self.assertEqual(len(late), len(early))
                self.assertTrue(all([high >= low for high, low in zip(late, early)]))

    def test_ranks_of_runs(self):
        for run in RUNS:
            puts, told = puts_of(run), ranks(run)
            self.assertIs(is_ranked(puts, told), True)
            made = ranked_run(puts, told)
            self.assertIs(is_run(made), True)
            self.assertEqual((puts_of(made), ranks(made)), (puts, told))
            self.assertLessEqual(len(made), len(run))

    def test_rows_that_no_run_has(self):
        puts = ((0, 1), (1, 2), (0, 1))
        for told in ((0, 1), (0, 1, 0, 0), (), (0, 1, 4), (2, 1, 2), (0, 1, 1), (0, 0, 0), (0, 3, 0), (1, 1, 0), (0, -1, 0)):
            self.assertIs(is_ranked(puts, told), False)
            self.assertRaises(CanNot, ranked_run, puts, told)
            self.assertRaises(CanNot, ranked_run, puts, list(told))
        # A rank falls back; a letter is put too late to be gone on by.
        self.assertIs(is_ranked(((1, 1), (0, 1), (0, 1)), (1, 2, 0)), False)
        self.assertIs(is_ranked(((0, 1), (1, 1)), (2, 1)), False)
        self.assertRaises(CanNot, ranked_run, (), (0,))
        self.assertEqual(ranked_run((), ()), ())
        self.assertIs(is_ranked(((0, 1),), ()), False)

    def test_takes_stand_right_ahead_of_what_goes_on(self):
        puts = ((1, 3), (1, 1), (0, 2), (0, 2), (1, 2), (0, 1), (1, 1))
        self.assertEqual(
            ranked_run(puts, (1, 1, 0, 2, 3, 4, 3)),
            ((1, 3), (1, 1), (0, 2), (0, 0), (0, 2), (1, 0), (1, 0), (1, 2), (0, 0), (0, 0), (0, 1), (1, 1)),
        )

    def test_things(self):
        for run in (MEET, ((0, 1), (1, 2), (1, 0), (1, 3), (0, 0), (0, 1)), ((1, 1), (0, 0), (0, 1))):
            check_no_things(self, lambda thing: is_ranked(puts_of(run), thing), ranks(run))
        self.assertIs(is_ranked((), ()), True)
        for thing in ([], None, (0,), 0, False, ""):
            self.assertIs(is_ranked((), thing), False)
        self.assertIs(is_ranked(((0, 1),), (10 ** 400,)), False)
        self.assertIs(is_ranked(((0, 1),), (0,) * 50000), False)

    def test_long_things(self):
        many = 40000
        puts = tuple([(own % 2, 1) for own in range(many)])
        self.assertIs(is_ranked(puts, tuple(range(many))), True)
        self.assertIs(is_ranked(puts, tuple([own % 2 for own in range(many)])), True)
        self.assertIs(is_ranked(puts, tuple(range(many - 1)) + (many + 1,)), False)


class CallsTest(unittest.TestCase):
    def test_lists_names_and_nothing_changed(self):
        for run in SOME + DRAWN[:10] + [EMPTY]:
            for call in (ranks, bits, ranks_now, laps, rank_weaving, moved):
                check_calls(self, call, run)
            for side in (0, 1):
                check_calls(self, rank_order, run, side)
                check_calls(self, ranks_told, side, bits(run))
            check_calls(self, is_ranked, puts_of(run), ranks(run))
            check_calls(self, is_ranked, puts_of(run), list(ranks(run)))
            check_calls(self, ranked_run, puts_of(run), ranks(run))
            check_calls(self, ranked_run, puts_of(run), (7,))
        self.assertIs(is_ranked([[0, 1]], [0]), False)
        self.assertEqual(repr(ranked_run(samples.listed(((1, 1), (0, 2))), [1, 2])), "((1, 1), (0, 0), (0, 2))")


if __name__ == "__main__":
    unittest.main()
