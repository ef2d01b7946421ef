"""ROOMS of a lawful MACHINE, what lies within them, and the TURNS of them by letters that stay (section 13)."""

from bothroads.doings import doings_of_letters, fitting, product, words_to_doings
from bothroads.errors import Unfit
from bothroads.law import broken
from bothroads.machines import least
from bothroads.values import are_numbers_from, tupled


class Stages:
    """What a lawful MACHINE is gone through by: its DOINGS, and its ROOMS, told by their numbers, ascending.

    small is the least MACHINE, words the dict of a WORD for each DOING, letters the list of the letters' DOINGS.
    rooms is the list of all ROOMS, room_at the number of the ROOM of each DOING. For each ROOM below has the numbers
    of those strictly within, turns the TURN of each letter that stays.
    """

    def __init__(self, machine):
        self.small = least(machine)
        self.words = words_to_doings(self.small)
        self.letters = doings_of_letters(self.small)
        room_by = {one: tuple(sorted({product(one, own) for own in self.words})) for one in self.words}
        self.rooms = sorted(set(list(room_by.values())))
        numbers = {room: number for number, room in enumerate(self.rooms)}
        self.room_at = {one: numbers[room_by[one]] for one in room_by}
        # A ROOM within is that of a member: each DOING is a member of its ROOM, and a member's ROOM lies within.
        come = [sorted({self.room_at[one] for one in room}) for room in self.rooms]
        self.below = [[own for own in row if own != number] for number, row in enumerate(come)]
        self.turns = [self.turns_in(number) for number in range(len(self.rooms))]

    def turns_in(self, number):
        """Give, for each letter that stays in this ROOM, its TURN of it."""
        room = self.rooms[number]
        places = {one: place for place, one in enumerate(room)}
        first = [one for one in room if self.room_at[one] == number][0]
        found = {}
        for letter, own in enumerate(self.letters, start=1):
            if self.room_at[product(first, own)] == number:
                found[letter] = tuple([places[product(one, own)] for one in room])
        return found

    def still(self, number):
        """Give the TURN of this ROOM by no letter."""
        return tuple(range(len(self.rooms[number])))


def stages_of(machine):
    """Give the Stages of machine; TooMuch if it has too many DOINGS, then Unfit if it is not lawful."""
    if broken(machine):
        raise Unfit()
    return Stages(machine)


def room_number(stages, room):
    """Give the number of room, maybe of lists; Unfit if it is none."""
    told = tupled(room)
    # Python holds True equal to 1, but it is no number: so what room is made of is asked ahead.
    if not isinstance(told, tuple) or not all([are_numbers_from(own, 0) for own in told]):
        raise Unfit()
    if told not in stages.rooms:
        raise Unfit()
    return stages.rooms.index(told)


def room_of(machine, one):
    """Give the ROOM of the DOING one."""
    stages = stages_of(machine)
    return stages.rooms[stages.room_at[fitting(stages.words, one)]]


def rooms(machine):
    """Give the set of all ROOMS."""
    return tuple(stages_of(machine).rooms)


def within(machine, room):
    """Give the set of the ROOMS that lie strictly within room."""
    stages = stages_of(machine)
    return tuple([stages.rooms[lower] for lower in stages.below[room_number(stages, room)]])


def staying(machine, room):
    """Give the set of the letters that stay in room."""
    stages = stages_of(machine)
    return tuple(sorted(list(stages.turns[room_number(stages, room)])))


def turned(machine, room, word):
    """Give the TURN of room by word; Unfit if a letter of it does not stay."""
    stages = stages_of(machine)
    number = room_number(stages, room)
    turns = stages.turns[number]
    now = stages.still(number)
    for letter in word:
        if letter not in turns:
            raise Unfit()
        now = turns_joined(now, turns[letter])
    return now


def turns_joined(one, other):
    """Give the TURN of one and of other behind it."""
    return tuple([other[place] for place in one])


def turn_back(turn):
    """Give the TURN that leads back."""
    return tuple([place for _, place in sorted([(to, place) for place, to in enumerate(turn)])])


def led(room, one, turn):
    """Give the member of room to which turn leads the member one."""
    told = tupled(room)
    return told[turn[told.index(tuple(one))]]


def cut_turn(room, lower, turn):
    """Give the TURN of lower, a ROOM within room, by the letters by which turn is one of room."""
    own = tupled(lower)
    return tuple([own.index(led(room, one, turn)) for one in own])
