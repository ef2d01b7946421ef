"""[2], [3] and [21]: with values at the bounds, and somewhat beyond, no function raises what no point names for it."""

import importlib
import inspect
import random
import unittest

import samples
from test_interface import INTERFACE
from walks import CROSS, OPEN, drawn_keeper, drawn_run
from bothroads.doings import doings
from bothroads.errors import BadLine, CanNot, NoPlace, TooMuch, Unfit
from bothroads.law import breach, is_lawful
from bothroads.runs import puts_of, settled
from bothroads.stages import room_of, within
from bothroads.trees import tree_of
from bothroads.weavings import order_of

# For each function the errors that some point names for it, by their first letters.
NAMED = {
    "machines": {"state_behind": "N", "takes": "N", "are_alike": "U", "parting_word": "U"},
    "doings": {
        "doing": "N",
        "doings": "T",
        "is_doing": "T",
        "word_for": "TU",
        "halting": "T",
        "commutes": "T",
        "crossed": "TC",
        "surroundings": "TUC",
        "is_surroundings": "TU",
    },
    "runs": {"seen": "N"},
    "weavings": {
        "is_weaving_of": "N",
        "reads": "U",
        "weaving_at": "N",
        "place_of": "U",
        "otherwise": "U",
        "states_come": "N",
        "answers_come": "N",
        "weaving_to": "NC",
    },
    "keepers": {"stands_behind": "U", "stands_along": "U", "answers": "U", "marks_sent": "U", "refutes": "U"},
    "ranks": {"ranked_run": "C"},
    "bits": {"note_behind": "TN", "notes_of": "T", "bit_pair": "T"},
    "bare": {
        "crossing_of": "TC",
        "crossing_runs": "U",
        "bare_pair": "TC",
        "is_bare_right": "UT",
        "bare_against": "UTC",
    },
    "law": {"is_lawful": "T", "broken": "T", "breach": "TC", "is_breach": "T", "kind": "T"},
    "stages": {"room_of": "TU", "rooms": "TU", "within": "TU", "staying": "TU", "turned": "TU"},
    "trees": {
        "tree_of": "TUN",
        "appended": "TUN",
        "put_ahead": "TUN",
        "cut": "TU",
        "whole": "TU",
        "left_behind": "TUC",
    },
    "oneroad": {
        "first_ends": "TU",
        "teller_put": "TU",
        "teller_take": "TU",
        "hearer_put": "TU",
        "hearer_take": "TUC",
        "hearer_doing": "TU",
        "ends_behind": "TU",
        "ends_come": "TU",
        "one_pair": "TU",
    },
    "against": {
        "round_of_trials": "U",
        "road_against": "UTC",
        "order_against": "UTC",
        "is_order_against": "U",
    },
    "groups": {
        "conjugates": "TUN",
        "states_led": "TUN",
        "fewest_marks": "TUN",
        "is_marks_table": "TUN",
        "telling_words": "TUN",
        "is_telling": "TUN",
        "marks_with": "N",
        "group_pair": "TU",
        "few_against": "UTNC",
    },
    "texts": {"machine_read": "BU", "run_read": "BU", "keeper_read": "BU", "pair_read": "BU"},
    "judge": {
        "is_so": "UT",
        "paper": "UT",
        "is_paper_for": "UT",
        "is_paper_against": "UT",
        "verdicts": "UT",
        "comes_of": "U",
        "first_false": "UT",
    },
    "desk": {"desk": "B"},
}
ERRORS = {"N": NoPlace, "B": BadLine, "C": CanNot, "T": TooMuch, "U": Unfit}


def bounded_machines(draw):
    """Draw MACHINES up to the bounds and somewhat beyond, all with two letters, or all with three."""
    letters = draw.choice([2, 2, 3])
    size = draw.choice([1, 2, 3, 4, 12, 14])
    kept = [own for own in samples.ALL + samples.ABOVE_48 + samples.JUST_48 if len(own[0][0]) == letters]
    found = [draw.choice(kept)]
    steps = tuple([tuple([draw.randrange(size) for _ in range(letters)]) for _ in range(size)])
    found.append((steps, tuple(sorted(draw.sample(range(size), size // 2)))))
    # Letters that lead no STATE back: so there are some that are lawful, and ROOMS within ROOMS.
    steps = tuple([tuple([draw.randint(own, min(size - 1, own + 2)) for _ in range(letters)]) for own in range(size)])
    return found + [(steps, (size - 1,))]


def doings_of(machine):
    try:
        return doings(machine)
    except TooMuch:
        return ((0,),)


def is_plainly_lawful(machine):
    try:
        return is_lawful(machine)
    except TooMuch:
        return False


class Drawn:
    """Values for each parameter that go together, as far as the document states that they must."""

    def __init__(self, draw):
        self.draw = draw
        machine = draw.choice(bounded_machines(draw))
        letters = len(machine[0][0])
        run = draw.choice([(), CROSS, OPEN[:56], drawn_run(draw, 64, letters), drawn_run(draw, 6, letters)])
        run = draw.choice([run, settled(run)])
        stands, marks = draw.choice([(1, 1), (3, 2), (400, 10), (66, 61), (410, 1)])
        keepers = [drawn_keeper(draw, stands, letters, marks, marks) for _ in range(2)]
        ones = doings_of(machine)
        one, goal = draw.choice(ones), draw.choice(ones)
        word = tuple([draw.randint(1, letters) for _ in range(draw.choice([0, 1, 3, 62]))])
        self.told = {
            "machine": machine,
            "run": run,
            "pair": tuple(keepers),
            "keeper": keepers[0],
            "word": word,
            "letter": draw.randint(1, letters),
            "side": draw.randrange(2),
            "goal": goal,
            "state": draw.randint(0, 13),
            "number": draw.choice([-1, 0, 1, 7, 10**20]),
            "numbers": tuple(sorted(draw.sample(range(len(puts_of(run))), min(3, len(puts_of(run)))))),
            "weaving": draw.choice([order_of(run, 0), tuple(range(len(puts_of(run))))]),
            "puts": puts_of(run),
            "crossing": draw.choice([(), ((), 1, 2, ()), (word, 1, letters, ())]),
            "tale": self.tale(machine, word),
            "low": 2,
            "high": draw.choice([3, 401]),
            "thing": draw.choice([None, (), word, run, machine, tuple(keepers), "roads", ((), (1,)), [1]]),
            "turn": (0, 2, 1),
        }
        self.trees(machine, one, goal, word)
        claim = draw.choice(
            [("free", machine), ("lawful", machine), ("led", machine, run, 1), ("marks", machine, 1, 2)]
        )
        claim = draw.choice([claim, ("alike", machine, machine), ("held", tuple(keepers), machine, settled(run))])
        self.told.update({"claim": claim, "claims": (claim, claim), "things": (word, None)})
        self.told["text"] = draw.choice(["", "run", "roads\nundo", "machine 1\nstate 0\nends", "x\n", "keeper 1 1"])

    def tale(self, machine, word):
        return (
            breach(machine)
            if doings_of(machine) != ((0,),) and not is_plainly_lawful(machine)
            else (word, word[:2], (1,), word)
        )

    def trees(self, machine, one, goal, word):
        """Set what hangs on ROOMS: what stands for them where there is none raises an error ahead of all."""
        room, tree, lower, turn = ((0,),), ((0,), 0, ()), ((0,),), (0,)
        if is_plainly_lawful(machine):
            room = room_of(machine, one)
            lower = self.draw.choice((room,) + within(machine, room))
            tree = tree_of(machine, room, word[:5])
            turn = tuple(range(len(room_of(machine, goal))))
        self.told.update({"one": one, "room": room, "lower": lower, "tree": tree, "goal_turn": turn})
        self.told.update({"hearer": (one, tree), "teller": (goal, turn)})

    def args(self, module, name, names):
        """Give the arguments for a function, for those names that stand for unlike values in unlike modules."""
        own = dict(self.told)
        if module == "machines":
            own.update({"one": own["machine"], "other": self.draw.choice(bounded_machines(self.draw))})
        elif module == "doings":
            own.update({"other": own["goal"]})
        elif module == "weavings":
            own.update({"one": own["weaving"], "other": tuple(range(len(own["puts"])))})
        elif name == "turns_joined":
            own.update({"one": (1, 2, 0), "other": (0, 2, 1)})
        elif name in ("led", "cut_turn"):
            own.update({"one": own["room"][0], "lower": own["room"], "turn": tuple(range(len(own["room"])))[::-1]})
        elif name == "left_behind":
            own.update({"turn": own["goal_turn"]})
        elif name == "hearer_take":
            own.update({"told": own["teller"]})
        elif name == "ranks_told":
            own.update({"told": (0, 1, 1, 0) * 15})
        elif name == "ranked_run":
            own.update({"told": tuple([side for side, _ in own["puts"]])})
        return [own[one] for one in names]


class BoundsTest(unittest.TestCase):
    def test_just_the_errors_that_are_named(self):
        draw = random.Random(211)
        raised = {}
        for _ in range(60):
            drawn = Drawn(draw)
            for name in NAMED:
                module = importlib.import_module("bothroads." + name)
                for own in [told.partition("(")[0] for told in INTERFACE[name].split("), ")]:
                    function = getattr(module, own)
                    args = drawn.args(name, own, list(inspect.signature(function).parameters))
                    named = tuple([ERRORS[letter] for letter in NAMED[name].get(own, "")])
                    try:
                        function(*args)
                    except named as error:
                        raised.setdefault(own, set()).add(type(error))
        self.assertGreater(len(raised), 60)

    def test_each_file_is_asked(self):
        self.assertEqual(list(NAMED), [own for own in INTERFACE if own != "errors"])
        for name, functions in NAMED.items():
            for own in functions:
                self.assertIn(own + "(", " " + INTERFACE[name])


if __name__ == "__main__":
    unittest.main()
