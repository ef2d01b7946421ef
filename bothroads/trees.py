"""TREES: what a WORD of whatever length does in a ROOM and in all ROOMS within (section 14)."""

from bothroads.doings import fitting, product
from bothroads.errors import CanNot, Unfit
from bothroads.machines import check_letters
from bothroads.stages import cut_turn, led, room_number, stages_of, turn_back, turns_joined


class Grove:
    """TREES, each made once and told by its number.

    TREES share most of what they hold, and nest too deep to be keys. So each is kept as a quadruple: the number of
    its ROOM, its TURN, its letter or 0, and the tuple of the numbers of the TREES for the ROOMS within, or ().
    """

    def __init__(self, stages):
        self.stages = stages
        self.made = []
        self.numbers = {}
        self.longer = {}
        self.cuts = {}
        self.tuples = {}

    def number_of(self, room, turn, letter, below):
        """Give the number of the TREE that is kept so."""
        kept = (room, turn, letter, below)
        if kept not in self.numbers:
            self.numbers[kept] = len(self.made)
            self.made.append(kept)
        return self.numbers[kept]

    def seed(self, room):
        """Give the TREE of () for room."""
        return self.number_of(room, self.stages.still(room), 0, ())

    def grown(self, room, word):
        """Give the TREE of word for room."""
        now = self.seed(room)
        for letter in word:
            now = self.appended(now, letter)
        return now

    def planted(self, room, tree):
        """Give the number of a TREE for room that is told by tuples or lists."""
        turn, letter, trees = tree
        below = [self.planted(lower, own) for lower, (_, own) in zip(self.stages.below[room], trees)]
        return self.number_of(room, tuple(turn), letter, tuple(below))

    def shown(self, tree):
        """Give the tuples that tell the TREE."""
        if tree not in self.tuples:
            room, turn, letter, below = self.made[tree]
            lowers = [self.stages.rooms[lower] for lower in self.stages.below[room]]
            trees = tuple([(lower, self.shown(own)) for lower, own in zip(lowers, below)])
            self.tuples[tree] = (turn, letter, trees)
        return self.tuples[tree]

    def appended(self, tree, letter):
        """Give the TREE of the WORD with letter behind it."""
        if (tree, letter) not in self.longer:
            self.longer[(tree, letter)] = self.worked_out_behind(tree, letter)
        return self.longer[(tree, letter)]

    def worked_out_behind(self, tree, letter):
        """Work out what appended gives."""
        room, turn, first, below = self.made[tree]
        if first > 0:
            return self.number_of(room, turn, first, tuple([self.appended(own, letter) for own in below]))
        turns = self.stages.turns[room]
        if letter in turns:
            return self.number_of(room, turns_joined(turn, turns[letter]), 0, ())
        return self.number_of(room, turn, letter, tuple([self.seed(lower) for lower in self.stages.below[room]]))

    def turned_ahead(self, tree, turn):
        """Give the TREE with turn ahead of its own TURN."""
        room, own, letter, below = self.made[tree]
        return self.number_of(room, turns_joined(turn, own), letter, below)

    def put_ahead(self, tree, letter):
        """Give the TREE of the WORD with letter ahead of it."""
        room = self.made[tree][0]
        turns = self.stages.turns[room]
        if letter in turns:
            return self.turned_ahead(tree, turns[letter])
        below = [self.cut(tree, lower) for lower in self.stages.below[room]]
        return self.number_of(room, self.stages.still(room), letter, tuple(below))

    def cut(self, tree, lower):
        """Give the TREE of the same WORD for lower, a ROOM that is that of the TREE or within it."""
        if (tree, lower) not in self.cuts:
            self.cuts[(tree, lower)] = self.worked_out_within(tree, lower)
        return self.cuts[(tree, lower)]

    def worked_out_within(self, tree, lower):
        """Work out what cut gives."""
        room, turn, first, below = self.made[tree]
        if room == lower:
            return tree
        ahead = cut_turn(self.stages.rooms[room], self.stages.rooms[lower], turn)
        if first == 0:
            return self.number_of(lower, ahead, 0, ())
        # The first letter that leaves the ROOM may stay in the lower one: what stands behind it is told for that.
        behind = below[self.stages.below[room].index(lower)]
        return self.turned_ahead(self.put_ahead(behind, first), ahead)

    def step(self, one, tree):
        """Give the pair of the DOING to which the TURN and the letter of the TREE lead one, and the TREE behind it."""
        room, turn, first, below = self.made[tree]
        now = product(led(self.stages.rooms[room], one, turn), self.stages.letters[first - 1])
        return now, below[self.stages.below[room].index(self.stages.room_at[now])]

    def whole(self, one, tree):
        """Give the DOING to which the WORD leads one."""
        now, rest = one, tree
        while self.made[rest][2] > 0:
            now, rest = self.step(now, rest)
        room, turn, _, _ = self.made[rest]
        return led(self.stages.rooms[room], now, turn)

    def left_behind(self, one, tree, goal, turn):
        """Give the TREE of what is left if one has been led to goal, by turn in its ROOM; None if it can not be."""
        room = self.stages.room_at[goal]
        now, rest = one, tree
        while self.stages.room_at[now] != room:
            if self.made[rest][2] == 0:
                return None
            now, rest = self.step(now, rest)
        if tuple(sorted(turn)) != self.stages.still(room) or led(self.stages.rooms[room], now, turn) != goal:
            return None
        return self.turned_ahead(rest, turn_back(turn))


def tree_of(machine, room, word):
    """Give the TREE of word for room; NoPlace for the first letter that machine has not."""
    grove = Grove(stages_of(machine))
    number = room_number(grove.stages, room)
    check_letters(machine, word)
    return grove.shown(grove.grown(number, word))


def appended(machine, room, tree, letter):
    """Give the TREE for room of the WORD with letter behind it; NoPlace if machine has not letter."""
    grove = Grove(stages_of(machine))
    number = room_number(grove.stages, room)
    check_letters(machine, (letter,))
    return grove.shown(grove.appended(grove.planted(number, tree), letter))


def put_ahead(machine, room, tree, letter):
    """Give the TREE for room of the WORD with letter ahead of it; NoPlace if machine has not letter."""
    grove = Grove(stages_of(machine))
    number = room_number(grove.stages, room)
    check_letters(machine, (letter,))
    return grove.shown(grove.put_ahead(grove.planted(number, tree), letter))


def cut(machine, room, tree, lower):
    """Give the TREE of the same WORD for lower; Unfit unless it is room or within it."""
    grove = Grove(stages_of(machine))
    number = room_number(grove.stages, room)
    to = room_number(grove.stages, lower)
    if to != number and to not in grove.stages.below[number]:
        raise Unfit()
    return grove.shown(grove.cut(grove.planted(number, tree), to))


def whole(machine, one, tree):
    """Give the DOING to which the WORD of tree leads one."""
    grove = Grove(stages_of(machine))
    own = fitting(grove.stages.words, one)
    return grove.whole(own, grove.planted(grove.stages.room_at[own], tree))


def left_behind(machine, one, tree, goal, turn):
    """Give the TREE of what is left of the WORD behind goal and turn; CanNot if it does not come to them."""
    grove = Grove(stages_of(machine))
    own = fitting(grove.stages.words, one)
    to = fitting(grove.stages.words, goal)
    left = grove.left_behind(own, grove.planted(grove.stages.room_at[own], tree), to, tuple(turn))
    if left is None:
        raise CanNot()
    return grove.shown(left)
