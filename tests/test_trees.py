"""[14]: TREES of WORDS, what is put behind and ahead, what is cut, and what is left."""

import unittest

import plainstages
import samples
from calls import check_calls
from plainstages import Plain
from bothroads.doings import doings
from bothroads.errors import CanNot, NoPlace, TooMuch, Unfit
from bothroads.law import is_lawful
from bothroads.stages import room_of, rooms, turned, within
from bothroads.trees import appended, cut, left_behind, put_ahead, tree_of, whole

DRAWN = [
    own
    for own in samples.drawn_machines(300, 141, states=4)
    if len(samples.plain_doings(samples.plain_least(own))) < 20
]
MACHINES = plainstages.LAWFUL + [own for own in DRAWN if is_lawful(own)][10:30]
FEW = plainstages.LAWFUL[4:] + [own for own in DRAWN if is_lawful(own)][10:16]
LIGHT_TOP = ((0, 1, 2), (1, 0, 2), (2, 2, 2))
CROWN, BRANCH, TWIG = doings(samples.BEGUN), ((1, 1, 2, 3), (3, 3, 2, 1)), ((2, 1, 2, 3), (2, 3, 2, 1))
OAK = tree_of(samples.BEGUN, CROWN, (1, 2, 2, 2))
CHAIN = (tuple([(min(own + 1, 11),) for own in range(12)]), (11,))


def short_words(plain, longest=4):
    return samples.words_to(longest if plain.letters < 3 else longest - 1, plain.letters)


class TreesTest(unittest.TestCase):
    def test_beside_the_document_for_short_words(self):
        deep = 0
        for machine in MACHINES:
            plain = Plain(machine)
            for room in plain.rooms:
                for word in short_words(plain):
                    told = tree_of(machine, room, word)
                    self.assertEqual(told, plain.tree(room, word), (machine, room, word))
                    deep += len(told[2]) > 1 and any([tree[1] > 0 for _, tree in told[2]])
        self.assertGreater(deep, 50)

    def test_long_words(self):
        for machine in FEW:
            plain = Plain(machine)
            for room in plain.rooms:
                for word in ((1,) * 60, (plain.letters, 1, 1) * 20):
                    self.assertEqual(tree_of(machine, room, word), plain.tree(room, word))

    def test_the_word_of_no_letter(self):
        for machine in MACHINES:
            for room in rooms(machine):
                self.assertEqual(tree_of(machine, room, ()), (tuple(range(len(room))), 0, ()))

    def test_letters_that_stay_and_such_as_leave(self):
        spins = doings(samples.SPINS)
        self.assertEqual(tree_of(samples.SPINS, spins, (1, 2)), (turned(samples.SPINS, spins, (1, 2)), 0, ()))
        top = rooms(samples.BEGINS)[0]
        one = ((0,), 0, ())
        self.assertEqual(
            tree_of(samples.BEGINS, top, (1, 2, 2)), ((0, 1, 2), 1, ((((1, 1, 2),), one), (((2, 1, 2),), one)))
        )
        # A ROOM of one member, within which there is none: no letter leaves it.
        self.assertEqual(tree_of(samples.BEGINS, ((1, 1, 2),), (1, 2, 1)), one)

    def test_not_least(self):
        for room in rooms(samples.BEGINS):
            for word in samples.words_to(3, 2):
                self.assertEqual(tree_of(plainstages.TWO_BEGINS, room, word), tree_of(samples.BEGINS, room, word))

    def test_trees_that_are_great(self):
        # Twelve ROOMS, each within those ahead: each TREE has one for each ROOM below, and so on.
        top = rooms(CHAIN)[0]
        tree = tree_of(CHAIN, top, (1,) * 30)
        self.assertEqual([len(tree[2]), len(tree[2][0][1][2]), tree[2][-1]], [11, 10, (((11,) * 12,), ((0,), 0, ()))])
        self.assertEqual(appended(CHAIN, top, tree, 1), tree)
        self.assertEqual(put_ahead(CHAIN, top, tree, 1), tree)
        self.assertEqual(whole(CHAIN, tuple(range(12)), tree), (11,) * 12)

    def test_finitely_many(self):
        for machine in (samples.BEGINS, samples.SWITCH, samples.SPINS):
            for room in rooms(machine):
                found = [tree_of(machine, room, ())]
                for tree in found:
                    for letter in (1, 2):
                        further = appended(machine, room, tree, letter)
                        if further not in found:
                            found.append(further)
                for word in samples.words_to(6, 2):
                    self.assertIn(tree_of(machine, room, word), found)


class ChangesTest(unittest.TestCase):
    def test_appended_put_ahead_and_cut_beside_words(self):
        for machine in FEW:
            plain = Plain(machine)
            for room in plain.rooms:
                for word in short_words(plain, 3):
                    tree = tree_of(machine, room, word)
                    for letter in range(1, plain.letters + 1):
                        self.assertEqual(appended(machine, room, tree, letter), plain.tree(room, word + (letter,)))
                        self.assertEqual(put_ahead(machine, room, tree, letter), plain.tree(room, (letter,) + word))
                    for lower in [room] + plain.within(room):
                        self.assertEqual(cut(machine, room, tree, lower), plain.tree(lower, word))

    def test_whole_beside_where_words_lead(self):
        for machine in MACHINES:
            plain = Plain(machine)
            for one in plain.doings:
                for word in short_words(plain, 3):
                    self.assertEqual(
                        whole(machine, one, tree_of(machine, plain.room_of[one], word)), plain.led(one, word)
                    )

    def test_one_tree_leads_to_one_doing_and_is_one_within(self):
        """WORDS with one TREE lead each member of the ROOM alike, and have one TREE for each ROOM within."""
        for machine in FEW:
            plain = Plain(machine)
            for room in plain.rooms:
                found = {}
                for word in short_words(plain, 5):
                    led = [plain.led(one, word) for one in room]
                    trees = [tree_of(machine, lower, word) for lower in plain.within(room)]
                    kept = found.setdefault(tree_of(machine, room, word), (led, trees))
                    self.assertEqual(kept, (led, trees))

    def test_cut_to_what_is_not_within(self):
        for machine in FEW:
            for room in rooms(machine):
                for other in rooms(machine):
                    tree = tree_of(machine, room, (1, 1))
                    if other == room:
                        self.assertEqual(cut(machine, room, tree, other), tree)
                    elif other in within(machine, room):
                        self.assertEqual(cut(machine, room, tree, other), tree_of(machine, other, (1, 1)))
                    else:
                        self.assertRaises(Unfit, cut, machine, room, tree, other)


class LeftBehindTest(unittest.TestCase):
    def test_beside_what_stands_behind_in_the_word(self):
        ways = {True: 0, False: 0}
        for machine in FEW:
            plain = Plain(machine)
            for one in plain.doings:
                for word in short_words(plain, 3):
                    tree = tree_of(machine, plain.room_of[one], word)
                    for at in range(len(word) + 1):
                        goal = plain.led(one, word[:at])
                        room = plain.room_of[goal]
                        turn = plain.turn(room, word[at - plain.since(one, word[:at]) : at])
                        left = left_behind(machine, one, tree, goal, turn)
                        self.assertEqual(left, plain.tree(room, word[at:]), (machine, one, word, at))
                        ways[room == plain.room_of[one]] += at > 0
        self.assertGreater(min(ways.values()), 100)

    def test_what_is_not_come_to(self):
        """Beside the document: along the WORD to the ROOM of goal, then by turn."""
        told = {True: 0, False: 0}
        for machine in FEW:
            plain = Plain(machine)
            for one in plain.doings:
                for word in short_words(plain, 2):
                    tree = tree_of(machine, plain.room_of[one], word)
                    for goal in plain.doings:
                        room = plain.room_of[goal]
                        firsts = [
                            own for own in range(len(word) + 1) if plain.room_of[plain.led(one, word[:own])] == room
                        ]
                        for turn in {plain.turn(room, own) for own in plain.staying_words(room, 2)}:
                            can = firsts and room[turn[room.index(plain.led(one, word[: firsts[0]]))]] == goal
                            told[bool(can)] += 1
                            if can:
                                self.assertEqual(len(left_behind(machine, one, tree, goal, turn)), 3)
                            else:
                                self.assertRaises(CanNot, left_behind, machine, one, tree, goal, turn)
        self.assertGreater(min(told.values()), 200)

    def test_the_doing_itself(self):
        for machine in FEW:
            plain = Plain(machine)
            for one in plain.doings:
                room = plain.room_of[one]
                tree = plain.tree(room, (1, 1))
                self.assertEqual(left_behind(machine, one, tree, one, plain.turn(room, ())), tree)

    def test_a_turn_that_leads_elsewhere(self):
        one = (0, 1, 2, 3)
        for turn in ((0, 1), (1, 0)):
            self.assertEqual(turn == (1, 0), self.can(one, (3, 3, 2, 1), turn))
            self.assertEqual(turn == (0, 1), self.can(one, (1, 1, 2, 3), turn))
            # The other ROOM is never come to, whatever leads on there.
            self.assertFalse(self.can(one, (2, 1, 2, 3), turn))
            self.assertFalse(self.can(one, (2, 3, 2, 1), turn))
        # What is no TURN of the ROOM leads nowhere.
        for turn in ((), (0,), (1,), (1, 1), (1, 2), (1, 0, 2), (-1, 0)):
            self.assertFalse(self.can(one, (3, 3, 2, 1), turn))

    def can(self, one, goal, turn):
        try:
            left_behind(samples.BEGUN, one, OAK, goal, turn)
        except CanNot:
            return False
        return True


class ChecksTest(unittest.TestCase):
    def calls(self, machine, room, one, letter):
        """Go through calls of all functions with these values, each once spoilt by what is checked behind them."""
        tree = ((0,), 0, ())
        yield tree_of, machine, room, (letter,)
        yield appended, machine, room, tree, letter
        yield put_ahead, machine, room, tree, letter
        yield cut, machine, room, tree, room
        yield whole, machine, one, tree
        yield left_behind, machine, one, tree, one, (0,)

    def test_too_much_ahead_of_all(self):
        for machine in samples.ABOVE_48:
            for call in list(self.calls(machine, None, None, 9)) + list(self.calls(machine, ((0,),), (0,), 1)):
                self.assertRaises(TooMuch, *call)

    def test_not_lawful(self):
        for machine in samples.LAWLESS:
            for call in list(self.calls(machine, None, None, 9)) + list(self.calls(machine, ((0, 1),), (0, 1), 1)):
                self.assertRaises(Unfit, *call)

    def test_what_is_no_room_or_doing_ahead_of_letters(self):
        for machine in plainstages.LAWFUL[5:]:
            for room in rooms(machine)[:2]:
                tree = tree_of(machine, room, ())
                for thing in plainstages.spoilt_rooms(machine, room):
                    self.assertRaises(Unfit, tree_of, machine, thing, (1, 9))
                    self.assertRaises(Unfit, appended, machine, thing, tree, 9)
                    self.assertRaises(Unfit, put_ahead, machine, thing, tree, 9)
                    self.assertRaises(Unfit, cut, machine, thing, tree, room)
                    self.assertRaises(Unfit, cut, machine, room, tree, thing)
                one = [own for own in room if room_of(machine, own) == room][0]
                turn = tuple(range(len(room)))
                for thing in plainstages.spoilt_doings(machine, one):
                    self.assertRaises(Unfit, whole, machine, thing, tree)
                    self.assertRaises(Unfit, left_behind, machine, thing, tree, one, turn)
                    self.assertRaises(Unfit, left_behind, machine, one, tree, thing, turn)

    def test_letters_that_machine_has_not(self):
        tree = ((0, 1, 2), 0, ())
        for word, letter in (((3,), 3), ((1, 4, 3), 4), ((2, 1, 3), 3), ((2, 0, 3), 0)):
            with self.assertRaises(NoPlace) as caught:
                tree_of(samples.LIGHT, LIGHT_TOP, word)
            self.assertEqual(caught.exception.place, letter)
        for call in (appended, put_ahead):
            for letter in (0, 3, 10**9):
                with self.assertRaises(NoPlace) as caught:
                    call(samples.LIGHT, LIGHT_TOP, tree, letter)
                self.assertEqual(caught.exception.place, letter)

    def test_just_48(self):
        for machine in samples.JUST_48[2:]:
            room = rooms(machine)[0]
            tree = tree_of(machine, room, (1,) * 60)
            self.assertEqual(tree, (turned(machine, room, (1,) * 60), 0, ()))
            self.assertEqual(whole(machine, room[0], tree_of(machine, room, ())), room[0])


class CallsTest(unittest.TestCase):
    def test_lists_names_and_nothing_changed(self):
        check_calls(self, tree_of, samples.BEGUN, CROWN, (1, 2, 2, 2))
        check_calls(self, tree_of, samples.BEGUN, CROWN, (1, 3))
        check_calls(self, tree_of, samples.LAST, ((0, 1),), ())
        check_calls(self, appended, samples.BEGUN, CROWN, OAK, 2)
        check_calls(self, appended, samples.BEGUN, CROWN, OAK, 3)
        check_calls(self, put_ahead, samples.BEGUN, CROWN, OAK, 2)
        check_calls(self, cut, samples.BEGUN, CROWN, OAK, BRANCH)
        check_calls(self, cut, samples.BEGUN, BRANCH, ((1, 0), 0, ()), TWIG)
        check_calls(self, whole, samples.BEGUN, (0, 1, 2, 3), OAK)
        check_calls(self, whole, samples.BEGUN, (0, 1, 2, 2), OAK)
        check_calls(self, left_behind, samples.BEGUN, (0, 1, 2, 3), OAK, (3, 3, 2, 1), (1, 0))
        check_calls(self, left_behind, samples.BEGUN, (0, 1, 2, 3), OAK, (3, 3, 2, 1), (0, 1))
        check_calls(self, left_behind, samples.BEGUN, (0, 1, 2, 3), OAK, (0, 1, 2, 3), (0, 1, 2, 3, 4))


if __name__ == "__main__":
    unittest.main()
