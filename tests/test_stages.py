"""[3] and [13]: ROOMS of lawful MACHINES, letters that stay, TURNS."""

import unittest

import plainstages
import samples
from calls import check_calls
from plainstages import Plain
from bothroads.doings import doings, product
from bothroads.errors import TooMuch, Unfit
from bothroads.law import is_lawful
from bothroads.stages import cut_turn, led, room_of, rooms, staying, turn_back, turned, turns_joined, within

DRAWN = [
    own
    for own in samples.drawn_machines(160, 131, states=4)
    if len(samples.plain_doings(samples.plain_least(own))) < 20
]
MACHINES = plainstages.LAWFUL + [own for own in DRAWN if is_lawful(own)][:25]
FEW = plainstages.LAWFUL[5:] + samples.GROUPS[:1]
FULL, NEAR, FAR = rooms(samples.SWITCH)


class RoomsTest(unittest.TestCase):
    def test_beside_all_products(self):
        for machine in MACHINES:
            plain = Plain(machine)
            self.assertEqual(rooms(machine), tuple(plain.rooms), machine)
            for one in plain.doings:
                self.assertEqual(room_of(machine, one), plain.room_of[one])
            for room in plain.rooms:
                self.assertEqual(within(machine, room), tuple(plain.within(room)))
                stays = [letter for letter in range(1, plain.letters + 1) if plain.stays(room, letter)]
                self.assertEqual(staying(machine, room), tuple(stays))

    def test_a_groups_doings_are_one_room(self):
        for machine in samples.GROUPS + samples.JUST_48[2:] + [samples.ODD, samples.FOURS]:
            self.assertEqual(rooms(machine), (doings(machine),))
            self.assertEqual(within(machine, doings(machine)), ())
            self.assertEqual(staying(machine, doings(machine)), tuple(range(1, len(machine[0][0]) + 1)))

    def test_one_state(self):
        for machine in (samples.LONE, samples.NEVER, (((0, 1), (1, 0)), ())):
            letters = tuple(range(1, len(machine[0][0]) + 1))
            self.assertEqual((rooms(machine), room_of(machine, (0,))), ((((0,),),), ((0,),)))
            self.assertEqual((staying(machine, ((0,),)), within(machine, ((0,),))), (letters, ()))
            self.assertEqual(turned(machine, ((0,),), letters * 3), (0,))

    def test_not_least(self):
        self.assertEqual(rooms(plainstages.TWO_BEGINS), rooms(samples.BEGINS))
        self.assertEqual(rooms(samples.FOURS), rooms(samples.ODD))

    def test_a_room_of_one_member(self):
        one = ((1, 1, 2),)
        self.assertIn(one, rooms(samples.BEGINS))
        self.assertEqual((within(samples.BEGINS, one), staying(samples.BEGINS, one)), ((), (1, 2)))
        self.assertEqual(turned(samples.BEGINS, one, (1, 2, 2)), (0,))
        self.assertEqual(
            (turns_joined((0,), (0,)), turn_back((0,)), led(one, (1, 1, 2), (0,))), ((0,), (0,), (1, 1, 2))
        )

    def test_what_letters_lead_to(self):
        """A letter that stays leads one-to-one, and stays within; another one leads strictly within."""
        for machine in MACHINES:
            plain = Plain(machine)
            for room in rooms(machine):
                for letter in range(1, plain.letters + 1):
                    own = samples.plain_doing(plain.small, (letter,))
                    if letter in staying(machine, room):
                        self.assertEqual(sorted([product(one, own) for one in room]), list(room))
                        for lower in within(machine, room):
                            self.assertIn(letter, staying(machine, lower))
                    else:
                        for one in doings(machine):
                            if room_of(machine, one) == room:
                                self.assertIn(room_of(machine, product(one, own)), within(machine, room))

    def test_rooms_of_members(self):
        for machine in MACHINES:
            for room in rooms(machine):
                for one in room:
                    self.assertIn(room_of(machine, one), (room,) + within(machine, room))
                    self.assertIn(one, room_of(machine, one))


class TurnsTest(unittest.TestCase):
    def test_turned_beside_where_members_are_led(self):
        told = 0
        for machine in MACHINES:
            plain = Plain(machine)
            for room in plain.rooms:
                for word in samples.words_to(3, plain.letters):
                    if all([plain.stays(room, letter) for letter in word]):
                        self.assertEqual(turned(machine, room, word), plain.turn(room, word))
                        told += len(word) > 0 and len(room) > 1
                    else:
                        self.assertRaises(Unfit, turned, machine, room, word)
        self.assertGreater(told, 150)

    def test_no_letter(self):
        for machine in MACHINES:
            for room in rooms(machine):
                self.assertEqual(turned(machine, room, ()), tuple(range(len(room))))

    def test_long_words(self):
        self.assertEqual(turned(samples.SPINS, doings(samples.SPINS), (1, 2) * 30), tuple(range(6)))
        self.assertEqual(turned(samples.SWITCH, NEAR, (1, 2) * 31), (1, 0))

    def test_letters_that_do_not_stay(self):
        for word in ((2,), (1, 2), (2, 1), (1, 1, 2, 1)):
            self.assertRaises(Unfit, turned, samples.SWITCH, FULL, word)
        # A letter that machine has not does not stay either.
        for word in ((3,), (1, 3), (0,), (1, 10**9)):
            self.assertRaises(Unfit, turned, samples.SWITCH, FULL, word)
            self.assertRaises(Unfit, turned, samples.SWITCH, NEAR, word)

    def test_joined_back_led_and_cut(self):
        for machine in MACHINES:
            plain = Plain(machine)
            for room in plain.rooms:
                words = list(plain.staying_words(room, 2))
                for one in words:
                    turn = turned(machine, room, one)
                    self.assertEqual(turns_joined(turn, turn_back(turn)), turned(machine, room, ()))
                    self.assertEqual(turns_joined(turn_back(turn), turn), turned(machine, room, ()))
                    for member in room:
                        self.assertEqual(led(room, member, turn), plain.led(member, one))
                    for lower in (room,) + within(machine, room):
                        self.assertEqual(cut_turn(room, lower, turn), turned(machine, lower, one))
                    for other in words:
                        self.assertEqual(
                            turns_joined(turn, turned(machine, room, other)), plain.turn(room, one + other)
                        )

    def test_one_turn_of_a_room_is_one_turn_within(self):
        for machine in MACHINES:
            plain = Plain(machine)
            for room in plain.rooms:
                found = {}
                for word in plain.staying_words(room, 4 if plain.letters < 3 else 3):
                    below = [turned(machine, lower, word) for lower in within(machine, room)]
                    self.assertEqual(found.setdefault(turned(machine, room, word), below), below)


class ChecksTest(unittest.TestCase):
    def test_too_much_ahead_of_all(self):
        for machine in samples.ABOVE_48:
            for one in ((0,), (), None):
                self.assertRaises(TooMuch, room_of, machine, one)
                self.assertRaises(TooMuch, within, machine, (one,))
                self.assertRaises(TooMuch, staying, machine, one)
                self.assertRaises(TooMuch, turned, machine, one, (9,))
            self.assertRaises(TooMuch, rooms, machine)

    def test_not_lawful(self):
        for machine in samples.LAWLESS + [samples.TWICE]:
            for one in ((0, 1), None):
                self.assertRaises(Unfit, room_of, machine, one)
                self.assertRaises(Unfit, within, machine, (one,))
                self.assertRaises(Unfit, staying, machine, one)
                self.assertRaises(Unfit, turned, machine, one, ())
            self.assertRaises(Unfit, rooms, machine)

    def test_what_is_no_room_or_doing(self):
        for machine in FEW:
            for room in rooms(machine):
                for thing in plainstages.spoilt_rooms(machine, room):
                    for call in (within, staying):
                        self.assertRaises(Unfit, call, machine, thing)
                    self.assertRaises(Unfit, turned, machine, thing, ())
            for one in doings(machine):
                for thing in plainstages.spoilt_doings(machine, one):
                    self.assertRaises(Unfit, room_of, machine, thing)
        # Members of two ROOMS, together no ROOM; a DOING of another MACHINE.
        self.assertRaises(Unfit, within, samples.SWITCH, tuple(sorted(NEAR + FAR)))
        self.assertRaises(Unfit, within, samples.SWITCH, NEAR + FAR[:1])
        self.assertRaises(Unfit, room_of, samples.SWITCH, (0, 0, 0))
        self.assertRaises(Unfit, staying, samples.SWITCH, rooms(samples.BEGINS)[0])

    def test_just_48(self):
        for machine in samples.JUST_48[2:]:
            room = rooms(machine)[0]
            self.assertEqual(len(room), 48)
            self.assertEqual(len(turned(machine, room, (1,) * 60)), 48)


class CallsTest(unittest.TestCase):
    def test_lists_names_and_nothing_changed(self):
        for machine in [samples.BEGINS, samples.SWITCH, samples.SPINS, samples.LAST, samples.ABOVE_48[0]]:
            check_calls(self, rooms, machine)
            for one in ((0, 1, 2), (2, 1, 2), (0, 0, 0)):
                check_calls(self, room_of, machine, one)
            for room in (FULL, NEAR, FAR, rooms(samples.BEGINS)[0], ((0,),)):
                check_calls(self, within, machine, room)
                check_calls(self, staying, machine, room)
                for word in ((), (1,), (1, 2)):
                    check_calls(self, turned, machine, room, word)
        check_calls(self, turns_joined, (1, 2, 0), (0, 2, 1))
        check_calls(self, turn_back, (1, 2, 0))
        check_calls(self, led, NEAR, (2, 2, 1), (1, 0))
        check_calls(self, cut_turn, FULL, FAR, (1, 0, 5, 4, 3, 2))


if __name__ == "__main__":
    unittest.main()
