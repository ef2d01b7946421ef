"""[10]: NOTES behind RUNS, the NOTES that there are, the BIT PAIR."""

import unittest

import samples
from calls import check_calls
from walks import CROSS, EMPTY, MEET, ONE_SIDED, OPEN, SOME, PlainRanks, drawn_runs, every_run
from bothroads.bits import bit_pair, note_behind, notes_of
from bothroads.doings import doings
from bothroads.errors import NoPlace, TooMuch
from bothroads.keepers import answers, bare_roads, is_pair, marks_sent, refutes, stands_behind
from bothroads.machines import least, takes
from bothroads.ranks import bits, rank_order, ranks_now
from bothroads.runs import puts_of, settled
from bothroads.weavings import reads

# CUBE has more than 400 NOTES.
MACHINES = [own for own in samples.ALL if own is not samples.CUBE]
DRAWN = [
    own for own in samples.drawn_machines(30, 51, states=3, letters=2) if len(samples.plain_doings(samples.plain_least(own))) < 20
]
RUNS = list(every_run(5, 1)) + drawn_runs(40, 52, events=25, letters=2) + SOME + [OPEN]


def runs_for(machine):
    letters = len(machine[0][0])
    return [run for run in RUNS if max([own for _, own in run], default=1) <= letters]


def plain_note(machine, run, side):
    """Give the NOTE as the document tells it, by a plain walk."""
    small, plain, puts = samples.plain_least(machine), PlainRanks(run), puts_of(run)
    rank = plain.now[side]
    others = [own for own in plain.known[side] if puts[own][0] != side]
    above = max([plain.told[own] for own in others], default=-1) > rank
    order = plain.by_ranks(plain.known[side])
    ahead = tuple([puts[own][1] for own in order if above or plain.told[own] < rank])
    own_puts = tuple([puts[own][1] for own in order if puts[own][0] == side and plain.told[own] == rank])
    return samples.plain_state(small, ahead), samples.plain_doing(small, () if above else own_puts), above, rank // 2 % 2


def plain_keeper(machine, side):
    """Give the NOTES of side and its KEEPER, by going through them one by one as the document tells."""
    small = samples.plain_least(machine)
    letters = range(1, len(small[0][0]) + 1)
    done = {own: samples.plain_doing(small, (own,)) for own in letters}
    one = tuple(range(len(small[0])))
    notes, sent, heard = [(0, one, False, 0)], [], []

    def number(note):
        if note not in notes:
            notes.append(note)
        return notes.index(note)

    while len(sent) < len(notes):
        q, d, above, b = notes[len(sent)]
        low = 1 - b if side == 0 else b
        row = []
        for own in letters:
            if above:
                row.append((number((q, samples.plain_product(one, done[own]), False, 1 - b)), 1 - b))
            else:
                row.append((number((q, samples.plain_product(d, done[own]), False, b)), b))
        sent.append(tuple(row))
        row = []
        for own in letters:
            further = []
            for mark in (0, 1):
                if above and mark == low:
                    note = (q, d, above, b)
                elif above:
                    note = (small[0][q][own - 1], one, True, b)
                elif mark == low:
                    note = (small[0][q][own - 1], d, False, b)
                else:
                    note = (small[0][d[q]][own - 1], one, True, b)
                further.append(number(note))
            row.append(tuple(further))
        heard.append(tuple(row))
    return tuple(notes), (tuple([d[q] in small[1] for q, d, _, _ in notes]), tuple(sent), tuple(heard))


class NoteBehindTest(unittest.TestCase):
    def test_beside_a_plain_walk(self):
        for machine in MACHINES + DRAWN:
            for run in runs_for(machine)[:: 1 if machine in (samples.LAST, samples.SPINS) else 3]:
                for side in (0, 1):
                    self.assertEqual(note_behind(machine, run, side), plain_note(machine, run, side), (machine, run))

    def test_the_empty_run(self):
        for machine in samples.ALL:
            one = tuple(range(len(least(machine)[0])))
            for side in (0, 1):
                self.assertEqual(repr(note_behind(machine, (), side)), repr((0, one, False, 0)))

    def test_the_greatest_rank_taken(self):
        for run in RUNS:
            plain = PlainRanks(run)
            for side in (0, 1):
                rank = ranks_now(run)[side]
                others = [own for own in plain.known[side] if puts_of(run)[own][0] != side]
                greatest = max([plain.told[own] for own in others], default=-1)
                self.assertIn(greatest, (rank - 1, rank + 1, -1))
                if greatest == -1:
                    self.assertIn((side, rank), ((0, 0), (1, 1)))

    def test_too_much_ahead_of_a_letter_that_is_not_there(self):
        for machine in samples.ABOVE_48:
            for run in ((), ((0, 9),), CROSS):
                self.assertRaises(TooMuch, note_behind, machine, run, 0)

    def test_the_first_letter_put_that_is_not_there(self):
        for run, letter in ((((0, 3), (1, 4)), 3), (((1, 1), (0, 9), (0, 0), (0, 4)), 9), (((0, 2), (1, 0), (1, 5)), 5)):
            for side in (0, 1):
                with self.assertRaises(NoPlace) as caught:
                    note_behind(samples.LAST, run, side)
                self.assertEqual(caught.exception.place, letter)

    def test_just_48_doings_and_more_than_400_notes(self):
        # Behind a RUN there is a NOTE, however many there are in all.
        for machine in samples.JUST_48 + samples.ABOVE_400:
            self.assertEqual(note_behind(machine, ((0, 1), (1, 0)), 1)[2:], (False, 0))


class NotesTest(unittest.TestCase):
    def test_beside_a_plain_search(self):
        for machine in MACHINES + DRAWN:
            keepers = []
            for side in (0, 1):
                notes, keeper = plain_keeper(machine, side)
                self.assertEqual(repr(notes_of(machine, side)), repr(notes))
                keepers.append(keeper)
            self.assertEqual(repr(bit_pair(machine)), repr(tuple(keepers)))

    def test_how_many(self):
        for machine in MACHINES + DRAWN + samples.JUST_48[:2] + samples.JUST_400:
            small, many = least(machine), len(doings(machine))
            group = all([len({row[at] for row in small[0]}) == len(small[0]) for at in range(len(small[0][0]))])
            for side in (0, 1):
                found = len(notes_of(machine, side))
                self.assertEqual(len(set(notes_of(machine, side))), found)
                self.assertLessEqual(found, 2 * len(small[0]) * (many + 1))
                if group:
                    self.assertEqual(found, 2 * len(small[0]) * (many + 1))

    def test_the_samples_groups(self):
        for machine in (samples.SPINS, samples.WHEEL, samples.ODD, samples.TWO_ODD, samples.THREE_SAME):
            states, many = len(least(machine)[0]), len(doings(machine))
            self.assertEqual(len(bit_pair(machine)[0][0]), 2 * (states * many + states))

    def test_one_state(self):
        for machine in (samples.LONE, samples.NEVER, (((0, 1), (1, 0)), (0, 1))):
            for side in (0, 1):
                self.assertEqual(len(notes_of(machine, side)), 4)
            told = tuple([takes(machine, ())] * 4)
            self.assertEqual([keeper[0] for keeper in bit_pair(machine)], [told, told])

    def test_exactly_400_and_more(self):
        for machine in samples.JUST_400:
            for side in (0, 1):
                self.assertEqual(len(notes_of(machine, side)), 400)
            self.assertEqual([len(keeper[0]) for keeper in bit_pair(machine)], [400, 400])
        for machine in samples.ABOVE_400:
            self.assertLessEqual(len(doings(machine)), 48)
            for side in (0, 1):
                self.assertRaises(TooMuch, notes_of, machine, side)
            self.assertRaises(TooMuch, bit_pair, machine)

    def test_more_than_48_doings(self):
        for machine in samples.ABOVE_48:
            self.assertRaises(TooMuch, notes_of, machine, 0)
            self.assertRaises(TooMuch, notes_of, machine, 1)
            self.assertRaises(TooMuch, bit_pair, machine)

    def test_of_the_least_machine(self):
        for one, other in ((samples.FOURS, samples.ODD), (samples.TWICE, samples.LAST)):
            self.assertEqual(bit_pair(one), bit_pair(other))
            self.assertEqual(notes_of(one, 1), notes_of(other, 1))
            for run in runs_for(one)[::5]:
                self.assertEqual(note_behind(one, run, 0), note_behind(other, run, 0))


class BitPairTest(unittest.TestCase):
    def test_stands_stand_for_the_notes_and_marks_are_the_bits(self):
        for machine in MACHINES + DRAWN:
            pair, notes = bit_pair(machine), (notes_of(machine, 0), notes_of(machine, 1))
            self.assertIs(is_pair(pair), True)
            self.assertEqual(bare_roads(pair), ())
            for run in runs_for(machine):
                stands = stands_behind(pair, run)
                for side in (0, 1):
                    self.assertEqual(notes[side][stands[side]], note_behind(machine, run, side))
                self.assertEqual(marks_sent(pair, run), bits(run))

    def test_answers_are_for_the_order_by_ranks(self):
        for machine in MACHINES + DRAWN:
            pair = bit_pair(machine)
            for run in runs_for(machine):
                plain = [takes(machine, reads(run, rank_order(run, side))) for side in (0, 1)]
                self.assertEqual(answers(pair, run), tuple(plain))

    def test_it_is_right(self):
        for machine in MACHINES + DRAWN:
            pair = bit_pair(machine)
            for run in runs_for(machine):
                rest = settled(run)
                self.assertEqual(len(set(answers(pair, rest))), 1)
                self.assertIs(refutes(pair, machine, rest), False, (machine, rest))

    def test_just_400_stands(self):
        for machine in samples.JUST_400:
            pair = bit_pair(machine)
            for run in drawn_runs(10, 53, events=40, letters=2):
                self.assertIs(refutes(pair, machine, settled(run)), False)


class CallsTest(unittest.TestCase):
    def test_lists_names_and_nothing_changed(self):
        for machine in (samples.LAST, samples.TWICE, samples.SPINS, samples.LONE, samples.ABOVE_48[0]):
            check_calls(self, bit_pair, machine)
            for side in (0, 1):
                check_calls(self, notes_of, machine, side)
                for run in [EMPTY, MEET, CROSS] + ONE_SIDED:
                    check_calls(self, note_behind, machine, run, side)


if __name__ == "__main__":
    unittest.main()
