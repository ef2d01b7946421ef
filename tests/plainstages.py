"""ROOMS, TURNS, TREES and the two ends of one bare road for the tests, reckoned plainly by WORDS."""

import samples
from walks import History

# Lawful MACHINES: not all doings of those of LAWFUL and GROUPS commute. Some are not least.
TWO_BEGINS = (((1, 2), (3, 1), (2, 4), (1, 3), (4, 2)), (1, 3))
CUT_OFF = (((2, 4, 0), (1, 1, 1), (3, 4, 2), (2, 4, 3), (4, 4, 4)), (2,))
COUNT_FIVE = (((1,), (2,), (3,), (4,), (4,)), (1, 4))
# ROOMS three to five deep. By TWISTED turns do not commute, and there are too many HEARERS; by the others 103, 47, 73.
TWISTED = (((2, 4), (3, 4), (1, 2), (1, 3), (4, 1)), (3,))
DEEP = [
    (((4, 5), (5, 3), (2, 3), (3, 2), (1, 2), (2, 3)), (3, 5)),
    (((4, 2), (3, 3), (4, 1), (4, 4), (3, 3)), (2, 4)),
    (((1, 0), (4, 1), (3, 4), (3, 3), (3, 2)), (2,)),
]
LAWFUL = (
    samples.FREE
    + samples.LAWFUL
    + samples.GROUPS[:2]
    + [TWO_BEGINS, CUT_OFF, COUNT_FIVE, TWISTED]
    + DEEP
    + samples.UNTIDY[1:]
)


class Plain:
    """What a lawful MACHINE does, by all DOINGS and by WORDS."""

    def __init__(self, machine):
        self.small = samples.plain_least(machine)
        self.letters = len(self.small[0][0])
        self.doings = sorted(samples.plain_doings(self.small))
        self.one = tuple(range(len(self.small[0])))
        rooms = {one: tuple(sorted({samples.plain_product(one, own) for own in self.doings})) for one in self.doings}
        self.room_of = rooms
        self.rooms = sorted(set(rooms.values()))

    def led(self, one, word):
        return samples.plain_product(one, samples.plain_doing(self.small, word))

    def within(self, room):
        return [own for own in self.rooms if set(own) < set(room)]

    def stays(self, room, letter):
        """Ask each DOING that has this ROOM: they must say the same."""
        told = {self.room_of[self.led(one, (letter,))] == room for one in self.doings if self.room_of[one] == room}
        assert len(told) == 1
        return told == {True}

    def turn(self, room, word):
        return tuple([room.index(self.led(one, word)) for one in room])

    def staying_words(self, room, longest):
        for word in samples.words_to(longest, self.letters):
            if all([self.stays(room, letter) for letter in word]):
                yield word

    def tree(self, room, word):
        at = 0
        while at < len(word) and self.stays(room, word[at]):
            at += 1
        if at == len(word):
            return self.turn(room, word), 0, ()
        trees = [(lower, self.tree(lower, word[at + 1 :])) for lower in self.within(room)]
        return self.turn(room, word[:at]), word[at], tuple(trees)

    def since(self, one, word):
        """Give how many letters of word led one on since the last ROOM was come to."""
        goal = self.led(one, word)
        at = len(word)
        while at > 0 and self.room_of[self.led(one, word[: at - 1])] == self.room_of[goal]:
            at -= 1
        return len(word) - at

    def ends(self, run, side):
        """Give the HEARER, at side, and the TELLER behind run, by the letters that each comes to know in its order."""
        told = History(run)
        teller_knows = told.known[1 - side]
        teller = self.teller(told, teller_knows, side)
        taken = [number for number in told.known[side] if told.puts[number][0] != side]
        own_puts = [number for number in told.known[side] if told.puts[number][0] == side]
        if not taken:
            return (self.one, self.tree(self.room_of[self.one], told.letters(own_puts))), teller
        # What the teller knew ahead of the last PUT that the hearer took.
        knew = teller_knows[: teller_knows.index(taken[-1])]
        goal, turn = self.teller(told, knew, side)
        letter = told.puts[taken[-1]][1]
        left = [number for number in own_puts if number not in knew]
        now = self.led(goal, (letter,))
        room = self.room_of[goal]
        if not self.stays(room, letter):
            return (now, self.tree(self.room_of[now], told.letters(left))), teller
        late = self.late(told, knew, side)
        ahead = [one for one in room if self.led(one, told.letters(late)) == now][0]
        return (ahead, self.tree(room, told.letters(late + left))), teller

    def late(self, told, knew, side):
        """Give those of knew that the teller took from side since it came to the ROOM that it has with them."""
        many = self.since(self.one, told.letters(knew))
        return [number for number in knew[len(knew) - many :] if told.puts[number][0] == side]

    def teller(self, told, knew, side):
        goal = self.led(self.one, told.letters(knew))
        return goal, self.turn(self.room_of[goal], told.letters(self.late(told, knew, side)))


def spoilt_rooms(machine, room):
    """Give what is no ROOM of machine, though like room."""
    found = [
        (),
        None,
        0,
        "room",
        room[:-1],
        room[1:],
        room + (room[0],),
        room + room,
        room[::-1],
        room + ((),),
        room[0],
        (room,),
        tuple([tuple([bool(own) if own < 2 else own for own in one]) for one in room]),
        tuple([one[:-1] for one in room]),
    ]
    told = [repr(own) for own in Plain(machine).rooms]
    return [thing for thing in found if repr(thing) not in told]


def spoilt_doings(machine, one):
    """Give what is no DOING by machine, though like one."""
    found = [
        (),
        None,
        0,
        "doing",
        one + (0,),
        one[:-1],
        (one,),
        tuple([len(one)] * len(one)),
        tuple([bool(own) if own < 2 else own for own in one]),
        tuple([-own for own in one]),
    ]
    told = [repr(own) for own in Plain(machine).doings]
    return [thing for thing in found if repr(thing) not in told]
