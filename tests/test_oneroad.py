"""[15]: the hearer's and the teller's ends behind RUNS, all that come, and the PAIR of them."""

import unittest

import plainstages
import samples
from calls import check_calls
from plainstages import Plain
from walks import SOME, History, drawn_runs, every_run, plain_answers, plain_refutes
from bothroads.doings import doings
from bothroads.errors import CanNot, NoPlace, TooMuch, Unfit
from bothroads.keepers import bare_roads, is_pair, marks_of, refutes, stands_along
from bothroads.law import is_lawful
from bothroads.oneroad import (
    ends_behind,
    ends_come,
    first_ends,
    hearer_doing,
    hearer_put,
    hearer_take,
    one_pair,
    teller_put,
    teller_take,
)
from bothroads.runs import is_at_rest, settled
from bothroads.stages import room_of, rooms
from bothroads.trees import tree_of

DRAWN = [
    own
    for own in samples.drawn_machines(300, 151, states=4)
    if len(samples.plain_doings(samples.plain_least(own))) < 20
]
MACHINES = plainstages.LAWFUL + [own for own in DRAWN if is_lawful(own)][:12]
RUNS = SOME + drawn_runs(60, 152, events=14, letters=3) + list(every_run(4, 2))[::9]
SMALL = [samples.LONE, samples.ODD, samples.LIGHT, samples.BEGINS, samples.SWITCH, plainstages.TWO_BEGINS]


def counts(machine):
    """Give how many HEARERS and TELLERS come, None if these are too many."""
    try:
        return tuple([len(own) for own in ends_come(machine)])
    except TooMuch:
        return None


COUNTED = [own for own in MACHINES if counts(own) is not None]


def runs_of(machine, runs=RUNS):
    """Give those of runs with letters that machine has alone."""
    return [run for run in runs if max([letter for _, letter in run], default=0) <= len(machine[0][0])]


def walked(machine, run, side):
    """Walk the functions of both ends along run, each letter of the teller beside what it told."""
    hearer, teller = first_ends(machine)
    roads = ([], [])
    for at, letter in run:
        told = teller if at != side else None
        if letter:
            roads[1 - at].append((letter, told))
            if at == side:
                hearer = hearer_put(machine, hearer, letter)
            else:
                teller = teller_put(machine, teller, letter)
        else:
            heard, told = roads[at].pop(0)
            if at == side:
                hearer = hearer_take(machine, hearer, told, heard)
            else:
                teller = teller_take(machine, teller, heard)
    return hearer, teller


class EndsTest(unittest.TestCase):
    def test_behind_runs_beside_words(self):
        for machine in MACHINES:
            plain = Plain(machine)
            for run in runs_of(machine):
                for side in (0, 1):
                    self.assertEqual(ends_behind(machine, run, side), plain.ends(run, side), (machine, run, side))

    def test_behind_runs_beside_each_step(self):
        for machine in MACHINES:
            for run in runs_of(machine)[::4]:
                for side in (0, 1):
                    self.assertEqual(ends_behind(machine, run, side), walked(machine, run, side))

    def test_the_first_ones(self):
        for machine in MACHINES:
            one = Plain(machine).one
            room = room_of(machine, one)
            still = tuple(range(len(room)))
            self.assertEqual(first_ends(machine), ((one, tree_of(machine, room, ())), (one, still)))
            self.assertEqual(ends_behind(machine, (), 0), first_ends(machine))
            self.assertEqual(ends_behind(machine, (), 1), first_ends(machine))

    def test_a_teller_beside_words(self):
        """Only what is taken turns: a letter that is put leaves turn as it is, one that leaves the ROOM begins anew."""
        stayed = 0
        for machine in MACHINES:
            plain = Plain(machine)
            for room in plain.rooms:
                for one in [own for own in room if plain.room_of[own] == room]:
                    for word in list(plain.staying_words(room, 2)):
                        teller = (one, plain.turn(room, word))
                        for letter in range(1, plain.letters + 1):
                            now = plain.led(one, (letter,))
                            behind = plain.room_of[now]
                            if behind == room:
                                stayed += 1
                                self.assertEqual(teller_put(machine, teller, letter), (now, teller[1]))
                                turn = plain.turn(room, word + (letter,))
                                self.assertEqual(teller_take(machine, teller, letter), (now, turn))
                            else:
                                told = (now, plain.turn(behind, ()))
                                self.assertEqual(teller_put(machine, teller, letter), told)
                                self.assertEqual(teller_take(machine, teller, letter), told)
        self.assertGreater(stayed, 100)

    def test_doings_are_those_of_what_is_known(self):
        for machine in MACHINES:
            plain = Plain(machine)
            for run in runs_of(machine):
                told = History(run)
                for side in (0, 1):
                    hearer, teller = ends_behind(machine, run, side)
                    knows = told.known[1 - side]
                    self.assertEqual(teller[0], plain.led(plain.one, told.letters(knows)))
                    # What the teller will know if it puts nothing behind the last PUT that the hearer took.
                    taken = [
                        at for at, own in enumerate(knows) if own in told.known[side] and told.puts[own][0] != side
                    ]
                    kept = knows[: taken[-1] + 1] if taken else []
                    left = [own for own in told.known[side] if own not in kept]
                    doing = plain.led(plain.one, told.letters(kept + left))
                    self.assertEqual(hearer_doing(machine, hearer), doing)
                    if is_at_rest(run):
                        self.assertEqual(hearer_doing(machine, hearer), teller[0])

    def test_at_rest_both_are_one(self):
        for machine in MACHINES:
            for run in runs_of(machine):
                for side in (0, 1):
                    hearer, teller = ends_behind(machine, settled(run), side)
                    self.assertEqual(hearer_doing(machine, hearer), teller[0])

    def test_long_runs(self):
        runs = [((0, 1),) * 30 + ((1, 1),) * 30, ((0, 1), (1, 1), (0, 0), (1, 0)) * 15] + drawn_runs(6, 153, 60, 1)
        for machine in MACHINES:
            plain = Plain(machine)
            for run in runs:
                self.assertEqual(ends_behind(machine, run, 0), plain.ends(run, 0))
                self.assertEqual(ends_behind(machine, run, 1), plain.ends(run, 1))


class ComeTest(unittest.TestCase):
    def test_beside_all_that_comes(self):
        for machine in SMALL:
            letters = range(1, len(machine[0][0]) + 1)
            hearer, teller = first_ends(machine)
            tellers = [teller]
            for own in tellers:
                for letter in letters:
                    for behind in (teller_put(machine, own, letter), teller_take(machine, own, letter)):
                        if behind not in tellers:
                            tellers.append(behind)
            hearers = [hearer]
            for own in hearers:
                come = [hearer_put(machine, own, letter) for letter in letters]
                for told in tellers:
                    for letter in letters:
                        try:
                            come.append(hearer_take(machine, own, told, letter))
                        except CanNot:
                            pass
                hearers.extend([behind for at, behind in enumerate(come) if behind not in hearers + come[:at]])
            found = (tuple([hearer] + sorted(hearers[1:])), tuple([teller] + sorted(tellers[1:])))
            self.assertEqual(ends_come(machine), found, machine)

    def test_those_behind_runs_come(self):
        for machine in COUNTED:
            hearers, tellers = ends_come(machine)
            for run in runs_of(machine):
                for side in (0, 1):
                    hearer, teller = ends_behind(machine, run, side)
                    self.assertIn(hearer, hearers)
                    self.assertIn(teller, tellers)

    def test_how_many(self):
        self.assertEqual([counts(own) for own in SMALL], [(1, 1), (4, 4), (9, 5), (5, 3), (20, 12), (5, 3)])
        self.assertEqual([counts(own) for own in samples.GROUPS], [(36, 36), (36, 36), None])
        self.assertEqual([counts(own) for own in plainstages.DEEP], [(103, 17), (47, 11), (73, 13)])

    def test_too_many(self):
        # 49 of either are not too many; 64, 144 are too many in pairs; 441 are too many of a kind.
        turning = [(tuple([((own + 1) % size,) for own in range(size)]), (0,)) for size in (7, 8, 12, 21)]
        self.assertEqual([counts(own) for own in turning], [(49, 49), None, None, None])
        self.assertIsNone(counts(plainstages.TWISTED))
        for machine in turning[1:] + [plainstages.TWISTED, samples.CUBE]:
            self.assertRaises(TooMuch, ends_come, machine)
            for side in (0, 1):
                self.assertRaises(TooMuch, one_pair, machine, side)
            # The other functions work all the same.
            run = ((0, 1), (1, 1), (0, 0), (1, 0))
            self.assertEqual(ends_behind(machine, run, 0), Plain(machine).ends(run, 0))

    def test_just_so_many_and_more(self):
        # 160 times 25 is 4,000, 191 times 21 is more; 543 HEARERS are too many, though by 6 TELLERS less than 4,000.
        just = (((1, 1), (3, 2), (3, 3), (4, 5), (4, 6), (5, 5), (6, 6)), (0, 3, 4, 5))
        above = (((1, 1, 1), (2, 2, 3), (4, 3, 4), (3, 3, 4), (4, 4, 4)), (1, 2, 4))
        alike = [
            (tuple([(min(own + 1, size - 1),) * many for own in range(size)]), (size - 1,))
            for size, many in ((7, 2), (6, 3))
        ]
        self.assertEqual([counts(own) for own in [just, above] + alike], [(160, 25), None, (247, 7), None])
        self.assertEqual(len(one_pair(just, 0)[0][0]), 160)

    def test_many_and_yet_not_too_many(self):
        chain = (tuple([(min(own + 1, 11),) for own in range(12)]), (11,))
        self.assertEqual(counts(chain), (78, 12))
        told = [own for own in DRAWN if is_lawful(own) and counts(own) is not None]
        self.assertGreater(max([own[0] * own[1] for own in map(counts, told)]), 400)


class PairTest(unittest.TestCase):
    def test_it_is_a_pair_with_a_bare_road(self):
        for machine in COUNTED:
            hearers, tellers = ends_come(machine)
            for side in (0, 1):
                pair = one_pair(machine, side)
                self.assertIs(is_pair(pair), True)
                self.assertEqual((len(pair[side][0]), len(pair[1 - side][0])), (len(hearers), len(tellers)))
                self.assertEqual((marks_of(pair[side]), marks_of(pair[1 - side])), (len(tellers), 1))
                self.assertIn(side, bare_roads(pair))
                self.assertEqual(one_pair(machine, 1 - side), pair[::-1])

    def test_beside_each_step(self):
        for machine in [own for own in COUNTED if counts(own)[0] < 60]:
            small = Plain(machine).small
            hearers, tellers = ends_come(machine)
            hearing, telling = one_pair(machine, 0)
            letters = range(1, len(small[0][0]) + 1)
            for stand, hearer in enumerate(hearers):
                self.assertIs(hearing[0][stand], hearer_doing(machine, hearer)[0] in small[1])
                behind = tuple([(hearers.index(hearer_put(machine, hearer, own)), 0) for own in letters])
                self.assertEqual(hearing[1][stand], behind)
                for letter in letters[:2]:
                    for mark in range(0, len(tellers), 3):
                        try:
                            now = hearers.index(hearer_take(machine, hearer, tellers[mark], letter))
                        except CanNot:
                            now = stand
                        self.assertEqual(hearing[2][stand][letter - 1][mark], now)
            for stand, teller in enumerate(tellers):
                self.assertIs(telling[0][stand], teller[0][0] in small[1])
                sent = tuple([(tellers.index(teller_put(machine, teller, own)), stand) for own in letters])
                self.assertEqual(telling[1][stand], sent)
                heard = tuple([(tellers.index(teller_take(machine, teller, own)),) for own in letters])
                self.assertEqual(telling[2][stand], heard)

    def test_behind_runs_beside_ends_behind(self):
        for machine in COUNTED:
            ends = ends_come(machine)
            for side in (0, 1):
                pair = one_pair(machine, side)
                for run in runs_of(machine)[::2]:
                    for at, stands in enumerate(stands_along(pair, run)):
                        if at % 3 == 0 or at == len(run):
                            told = tuple(
                                [own.index(end) for own, end in zip(ends, ends_behind(machine, run[:at], side))]
                            )
                            self.assertEqual(stands if side == 0 else stands[::-1], told)

    def test_it_is_right(self):
        drawn = drawn_runs(150, 154, events=40, letters=3)
        for machine in COUNTED:
            for side in (0, 1):
                pair = one_pair(machine, side)
                for run in runs_of(machine, RUNS + drawn):
                    self.assertIs(refutes(pair, machine, settled(run)), False, (machine, side, run))

    def test_it_is_right_by_all_weavings(self):
        for machine in COUNTED[::2]:
            for side in (0, 1):
                pair = one_pair(machine, side)
                for run in runs_of(machine, list(every_run(6, 2)))[::11]:
                    if is_at_rest(run):
                        self.assertIs(plain_refutes(pair, machine, run), False)
                        self.assertEqual(len(set(plain_answers(pair, run))), 1)


class ChecksTest(unittest.TestCase):
    def calls(self, machine, one, letter):
        hearer, teller = (one, ((0,), 0, ())), (one, (0,))
        yield first_ends, machine
        yield teller_put, machine, teller, letter
        yield teller_take, machine, teller, letter
        yield hearer_put, machine, hearer, letter
        yield hearer_take, machine, hearer, teller, letter
        yield hearer_doing, machine, hearer
        yield ends_behind, machine, ((0, letter),), 0
        yield ends_come, machine
        yield one_pair, machine, 1

    def test_too_much_ahead_of_all(self):
        for machine in samples.ABOVE_48:
            for call in list(self.calls(machine, None, 9)) + list(self.calls(machine, (0,), 1)):
                self.assertRaises(TooMuch, *call)

    def test_not_lawful(self):
        for machine in samples.LAWLESS + [samples.TWICE]:
            for call in list(self.calls(machine, None, 9)) + list(self.calls(machine, (0, 1), 1)):
                self.assertRaises(Unfit, *call)

    def test_what_is_no_doing(self):
        hearer, teller = first_ends(samples.SWITCH)
        for thing in plainstages.spoilt_doings(samples.SWITCH, hearer[0]):
            no_hearer, no_teller = (thing, hearer[1]), (thing, teller[1])
            for letter in (1, 9):
                self.assertRaises(Unfit, teller_put, samples.SWITCH, no_teller, letter)
                self.assertRaises(Unfit, teller_take, samples.SWITCH, no_teller, letter)
                self.assertRaises(Unfit, hearer_put, samples.SWITCH, no_hearer, letter)
                self.assertRaises(Unfit, hearer_take, samples.SWITCH, no_hearer, teller, letter)
                self.assertRaises(Unfit, hearer_take, samples.SWITCH, hearer, no_teller, letter)
            self.assertRaises(Unfit, hearer_doing, samples.SWITCH, no_hearer)

    def test_letters_that_machine_has_not(self):
        hearer, teller = first_ends(samples.SWITCH)
        for call in (
            (teller_put, samples.SWITCH, teller, 3),
            (teller_take, samples.SWITCH, teller, 3),
            (hearer_put, samples.SWITCH, hearer, 3),
            (hearer_take, samples.SWITCH, hearer, teller, 3),
            (ends_behind, samples.SWITCH, ((0, 1), (1, 3), (0, 4)), 0),
        ):
            with self.assertRaises(NoPlace) as caught:
                call[0](*call[1:])
            self.assertEqual(caught.exception.place, 3)

    def test_what_can_not_be_taken(self):
        hearer, teller = first_ends(samples.BEGINS)
        for told in (((1, 1, 2), (0,)), ((2, 1, 2), (0,))):
            for letter in (1, 2):
                self.assertRaises(CanNot, hearer_take, samples.BEGINS, hearer, told, letter)
        put = hearer_put(samples.BEGINS, hearer, 1)
        self.assertEqual(hearer_take(samples.BEGINS, put, ((1, 1, 2), (0,)), 2)[0], (1, 1, 2))
        self.assertRaises(CanNot, hearer_take, samples.BEGINS, put, ((2, 1, 2), (0,)), 2)
        # A TURN that leads elsewhere: the first HEARER and the first TELLER's DOING, but turned.
        hearer, teller = first_ends(samples.SPINS)
        self.assertEqual(hearer_take(samples.SPINS, hearer, teller, 1)[0], samples.plain_doing(samples.SPINS, (1,)))
        self.assertRaises(CanNot, hearer_take, samples.SPINS, hearer, (teller[0], (1, 0, 4, 5, 2, 3)), 1)

    def test_one_state(self):
        for machine in (samples.LONE, samples.NEVER):
            ends = (((0,), ((0,), 0, ())), ((0,), (0,)))
            self.assertEqual((first_ends(machine), counts(machine)), (ends, (1, 1)))
            run = ((0, 1), (1, 1), (1, 0))
            self.assertEqual(ends_behind(machine, run, 1), ends)
            letters = len(machine[0][0])
            keeper = ((machine == samples.LONE,), (((0, 0),) * letters,), (((0,),) * letters,))
            self.assertEqual(one_pair(machine, 0), (keeper, keeper))

    def test_just_48(self):
        for machine in samples.JUST_48[2:]:
            room = rooms(machine)[0]
            run = ((0, 1), (1, 1), (0, 0), (1, 0))
            self.assertEqual(ends_behind(machine, run, 0), Plain(machine).ends(run, 0))
            self.assertEqual(len(first_ends(machine)[1][1]), len(room))
            self.assertRaises(TooMuch, ends_come, machine)


class CallsTest(unittest.TestCase):
    def test_lists_names_and_nothing_changed(self):
        run = ((0, 1), (0, 2), (1, 0), (1, 2), (1, 0), (0, 0))
        for machine in [samples.BEGINS, samples.SWITCH, samples.LAST, samples.ABOVE_48[0], samples.CUBE]:
            check_calls(self, first_ends, machine)
            check_calls(self, ends_come, machine)
            check_calls(self, ends_behind, machine, run, 0)
            check_calls(self, ends_behind, machine, run[:3], 1)
            check_calls(self, one_pair, machine, 1)
        machine = samples.BEGUN
        hearer, teller = ends_behind(machine, ((0, 2), (0, 1), (1, 2), (1, 0), (0, 2)), 0)
        self.assertIn(hearer[0], doings(machine))
        for letter in (1, 2, 3):
            check_calls(self, teller_put, machine, teller, letter)
            check_calls(self, teller_take, machine, teller, letter)
            check_calls(self, hearer_put, machine, hearer, letter)
            check_calls(self, hearer_take, machine, hearer, first_ends(machine)[1], letter)
            check_calls(self, hearer_take, machine, hearer, ((2, 1, 2, 3), (1, 0)), letter)
        check_calls(self, hearer_doing, machine, hearer)


if __name__ == "__main__":
    unittest.main()
