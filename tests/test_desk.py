"""[20]: requests, replies, what is refused, undo, beside a plain play of what is held."""

import random
import unittest

import samples
from calls import check_calls, nests
from walks import COUNT, CROSS, HEAR, LATEST, LEAD, STUCK, History, drawn_pairs, plain_answers, plain_walk
from bothroads.bits import bit_pair
from bothroads.desk import desk, is_request
from bothroads.errors import BadLine
from bothroads.texts import keeper_text, machine_text, pair_text, run_text

PLAIN = ["settle", "undo", "answers", "stands", "roads", "led", "held", "past"]
PLAIN += ["put 0 1", "put 1 2", "put 0 999999999", "put 1 10", "take 0", "take 1", "order 0", "order 1"]
TEXTS = ["pair", "machine", "run"]
NONE = [
    "",
    " ",
    "x",
    " put 0 1",
    "put",
    "put 0",
    "put 0 1 ",
    "put  0 1",
    "put 0 0",
    "put 0 01",
    "put 0 x",
    "put 0 -1",
    "put 0 1000000000",
    "put 2 1",
    "put 00 1",
    "put 0 1 1",
    "Put 0 1",
    "take",
    "take 2",
    "take 0 0",
    "take 0 ",
    "take 01",
    "order",
    "order 2",
    "order 0 1",
    "settle 0",
    "settle ",
    "undo undo",
    "answers 0",
    "Answers",
    "stand",
    "roads 1",
    "led 1",
    "held?",
    "past\t",
    "pair 1",
    "machine 1",
    "run run",
    "put 0 1\r",
]


def with_text(word, text):
    """Give the request of word with text."""
    return "\n".join([word] + [" " + line for line in text.split("\n")])


def numbers(own):
    return " ".join([str(one) for one in own]) or "-"


class Plain:
    """A plain play of what is held: letters on roads that are lists, and all that was held ahead of each deed."""

    def __init__(self):
        lone = ((True,), (((0, 0),),), (((0,),),))
        self.held = ((lone, lone), (((0,),), (0,)), ())
        self.ahead = []

    def many(self):
        return len(self.held[0][0][1][0])

    def done(self, word, held):
        self.ahead.append((word, self.held))
        self.held = held
        return "done"

    def reply(self, request):
        """Reply to a request: what has a text is a pair of its word and the value that the text tells."""
        pair, machine, run = self.held
        if isinstance(request, tuple):
            word, value = request
            if word == "pair":
                return self.done(word, (value, machine, ()))
            if word == "machine":
                return self.done(word, (pair, value, run))
            if max([letter for _, letter in value], default=0) > self.many():
                return "refused Unfit"
            return self.done(word, (pair, machine, value))
        words = request.split(" ")
        history = History(run)
        if words[0] == "put":
            if int(words[2]) > self.many():
                return "refused Unfit"
            return self.done("put", (pair, machine, run + ((int(words[1]), int(words[2])),)))
        if words[0] == "take":
            if not history.roads[int(words[1])]:
                return "refused CanNot"
            return self.done("take", (pair, machine, run + ((int(words[1]), 0),)))
        if words[0] == "settle":
            takes = ((0, 0),) * len(history.roads[0]) + ((1, 0),) * len(history.roads[1])
            return self.done("settle", (pair, machine, run + takes))
        if words[0] == "undo":
            if not self.ahead:
                return "refused CanNot"
            word, self.held = self.ahead.pop()
            return word
        return self.told(words, history)

    def told(self, words, history):
        pair, machine, run = self.held
        yes = {True: "yes", False: "no"}
        if words[0] == "answers":
            return ", ".join([yes[own] for own in plain_answers(pair, run)])
        if words[0] == "stands":
            return "{}, {}".format(*plain_walk(pair, run)[0][-1])
        if words[0] == "roads":
            return ", ".join([numbers(history.letters(own)) for own in history.roads])
        if words[0] == "order":
            return numbers(history.known[int(words[1])])
        if words[0] == "past":
            return "\n".join(["run"] + [f"put {at} {own}" if own else f"take {at}" for at, own in run])
        if self.many() != len(machine[0][0]):
            return "refused Unfit"
        if words[0] == "led":
            return numbers(history.states(machine))
        if history.roads != ([], []):
            return "refused CanNot"
        first, second = plain_answers(pair, run)
        return yes[first == second and first in history.answers(machine)]


PAIRS = (
    drawn_pairs(6, 201, letters=1)
    + drawn_pairs(6, 202, letters=2)
    + [(LEAD, HEAR), (LATEST, LATEST), bit_pair(samples.LAST)]
)
MACHINES = [samples.ODD, samples.LAST, samples.BEGINS, samples.SPINS, samples.LONE, samples.TWICE]


def drawn_requests(draw, many):
    """Draw requests, and what a plain play is told of them."""
    texts = {"pair": (PAIRS, pair_text), "machine": (MACHINES, machine_text), "run": ([CROSS, (), CROSS[:3]], run_text)}
    lines, told = [], []
    words = ["put 0 1", "put 1 1", "put 0 2", "put 1 2", "take 0", "take 1"] * 4 + PLAIN + TEXTS
    puts = 0
    for at in range(many):
        word = draw.choice(words if at else TEXTS)
        # Few PUTS in all, for the plain play lists all WEAVINGS.
        if word.startswith("put") and puts >= 6:
            word = draw.choice(["roads", "settle", "led", "held", "stands", "order 1"])
        puts = 0 if word == "pair" else 3 if word == "run" else puts + word.startswith("put")
        if word in texts:
            values, write = texts[word]
            value = draw.choice(values)
            lines.append(with_text(word, write(value)))
            told.append((word, value))
        else:
            lines.append(word)
            told.append(word)
    return lines, told


class PlayTest(unittest.TestCase):
    def test_beside_a_plain_play(self):
        draw = random.Random(203)
        found = {}
        for _ in range(400):
            lines, told = drawn_requests(draw, 30)
            plain = Plain()
            replies = [plain.reply(own) for own in told]
            self.assertEqual(desk("\n".join(lines)), replies, lines)
            for request, reply in zip(told, replies):
                word = request[0] if isinstance(request, tuple) else request.split(" ")[0]
                found.setdefault(word, set()).add(reply if reply.startswith("refused") else "done")
        self.assertEqual(
            {word for word, own in found.items() if "done" in own}, {own.split(" ")[0] for own in PLAIN + TEXTS}
        )
        refused = {"put", "take", "undo", "led", "held", "run"}
        self.assertEqual({word for word, own in found.items() if own - {"done"}}, refused)
        self.assertEqual(found["held"], {"done", "refused Unfit", "refused CanNot"})

    def test_at_first(self):
        self.assertEqual(desk(""), [])
        told = desk("answers\nstands\nroads\norder 0\norder 1\nled\nheld\npast\nundo\ntake 0\nput 1 2\nsettle")
        self.assertEqual(
            told,
            ["yes, yes", "0, 0", "-, -", "-", "-", "0", "yes", "run"]
            + ["refused CanNot"] * 2
            + ["refused Unfit", "done"],
        )

    def test_a_pair_begins_anew_a_machine_does_not(self):
        pair = with_text("pair", pair_text((LATEST, LATEST)))
        machine = with_text("machine", machine_text(samples.LAST))
        self.assertEqual(
            desk("put 0 1\n" + pair + "\npast\nput 0 2\n" + machine + "\npast\nled")[2:],
            ["run", "done", "done", "run\nput 0 2", "0"],
        )

    def test_undo_of_each_kind_of_deed(self):
        pair = with_text("pair", pair_text((COUNT, COUNT)))
        machine = with_text("machine", machine_text((samples.ODD[0], (0,))))
        run = with_text("run", "run\nput 1 1\ntake 0")
        deeds = [pair, "put 0 1", "take 1", machine, "put 1 1", "settle", run]
        asked = ["past", "answers", "stands", "led"]
        states = []
        for many in range(len(deeds) + 1):
            states.append(desk("\n".join(deeds[:many] + asked))[many:])
        told = desk("\n".join(deeds + asked + [own for _ in deeds for own in ["undo"] + asked] + ["undo"]))
        at = len(deeds)
        self.assertEqual(told[at : at + 4], states[-1])
        for many, word in enumerate(["run", "settle", "put", "machine", "take", "put", "pair"]):
            at = len(deeds) + 4 + 5 * many
            self.assertEqual(told[at], word)
            self.assertEqual(told[at + 1 : at + 5], states[len(deeds) - 1 - many])
        self.assertEqual(told[-1], "refused CanNot")

    def test_what_is_refused_is_no_deed(self):
        told = desk(
            "put 0 1\ntake 0\nput 1 2\nrun\n run\n take 0\npair\n x\n"
            "machine\n machine 1\n state 1\n ends\nundo\nundo\npast"
        )
        self.assertEqual(
            told,
            [
                "done",
                "refused CanNot",
                "refused Unfit",
                "refused Unfit",
                "refused BadLine",
                "refused Unfit",
                "put",
                "refused CanNot",
                "run",
            ],
        )

    def test_a_deed_that_changes_nothing_is_one(self):
        self.assertEqual(
            desk("settle\nsettle\nundo\nundo\nundo"), ["done", "done", "settle", "settle", "refused CanNot"]
        )

    def test_texts(self):
        for word in TEXTS:
            # One empty line is the empty text, of which a reader takes nothing.
            self.assertEqual(desk(word + "\n "), ["refused BadLine"])
            self.assertEqual(desk(word + "\n \n "), ["refused BadLine"])
            self.assertEqual(desk(word + "\n  " + word), ["refused BadLine"])
        self.assertEqual(desk("run\n run"), ["done"])
        self.assertEqual(desk("run\n run\n "), ["refused BadLine"])
        self.assertEqual(desk("run\n run\n put 0 1\n take 1\nroads\norder 1"), ["done", "-, -", "0"])
        self.assertEqual(desk("run\n run\n put 0 2"), ["refused Unfit"])
        self.assertEqual(desk("run\n run\n put 0 0"), ["refused BadLine"])
        self.assertEqual(desk(with_text("pair", keeper_text(LEAD) + "\n" + keeper_text(LEAD))), ["refused Unfit"])
        self.assertEqual(desk(with_text("machine", "machine 1\nstate 0\nends 1")), ["refused Unfit"])
        self.assertEqual(desk(with_text("machine", "machine 1\nstate 0\nends 0 0")), ["refused BadLine"])

    def test_letters(self):
        pair = with_text("pair", pair_text((LATEST, LATEST)))
        self.assertEqual(
            desk(pair + "\nput 0 2\nput 0 3\nput 1 999999999\nroads"),
            ["done", "done"] + ["refused Unfit"] * 2 + ["-, 2"],
        )

    def test_held(self):
        pair = with_text("pair", pair_text((LATEST, LATEST)))
        machine = with_text("machine", machine_text(samples.LAST))
        # Unlike many letters ahead of what is not at rest.
        self.assertEqual(
            desk(
                pair
                + "\nput 0 1\nheld\nled\n"
                + machine
                + "\nheld\nled\nsettle\nheld\nput 1 2\nheld\nput 0 1\nsettle\nheld\nled"
            )[2:],
            [
                "refused Unfit",
                "refused Unfit",
                "done",
                "refused CanNot",
                "1",
                "done",
                "yes",
                "done",
                "refused CanNot",
                "done",
                "done",
                "no",
                "0 1",
            ],
        )

    def test_too_many_doings_are_no_hindrance(self):
        machine = samples.ABOVE_48[2]
        told = desk(with_text("machine", machine_text(machine)) + "\nput 0 1\nled\nsettle\nheld")
        self.assertEqual(told, ["done", "done", "1", "done", "no"])

    def test_long_ones(self):
        pair = with_text("pair", pair_text((STUCK, STUCK)))
        told = desk(pair + "\n" + "put 0 1\nput 1 1\n" * 30 + "roads\nsettle\nroads\norder 0\npast")
        self.assertEqual(told[61:64], [" ".join("1" * 30) + ", " + " ".join("1" * 30), "done", "-, -"])
        self.assertEqual(len(told[64].split(" ")), 60)
        self.assertEqual(told[65], "run" + "\nput 0 1\nput 1 1" * 30 + "\ntake 0" * 30 + "\ntake 1" * 30)


class LinesTest(unittest.TestCase):
    def bad(self, text, line):
        with self.assertRaises(BadLine, msg=text) as caught:
            desk(text)
        self.assertEqual(caught.exception.line, line, text)

    def test_lines_that_are_no_requests(self):
        for line in NONE:
            if line:
                self.bad(line, 1)
            if not line.startswith(" "):
                self.bad("settle\n" + line, 2)
                self.bad("run\n run\n put 0 1\n" + line + "\nroads", 4)
        for line in TEXTS:
            self.bad(line, 1)
            self.bad("roads\n" + line + "\nroads", 2)
        for line in PLAIN:
            # A text too much: the line at which the request begins.
            self.bad("roads\n" + line + "\n x\n y\nroads", 2)
            self.bad(line + "\n ", 1)

    def test_empty_lines(self):
        for text, line in (
            ("\n", 1),
            ("roads\n", 2),
            ("\nroads", 1),
            ("roads\n\nroads", 2),
            ("run\n run\n", 3),
            ("run\n run\n\n x", 3),
        ):
            self.bad(text, line)

    def test_the_first_one_ahead_of_all(self):
        self.bad("take 0\nput 0 2\nrun\n x\nx\n\ny", 5)
        self.bad(" x\n y\nz", 1)
        self.bad("undo\nrun\nroads\nx", 2)

    def test_texts_may_be_anything(self):
        self.assertEqual(
            desk("run\n " + "x" * 5000 + "\npair\n \u20ac\t\nroads"), ["refused BadLine", "refused BadLine", "-, -"]
        )


class RequestsTest(unittest.TestCase):
    def test_such_as_are(self):
        for thing in PLAIN + [own + "\n x" for own in TEXTS] + [own + "\n \n  \n \n x" for own in TEXTS]:
            self.assertIs(is_request(thing), True, thing)
        self.assertIs(is_request("run\n " + "9" * 5000), True)

    def test_such_as_are_none(self):
        for thing in NONE + TEXTS + [own + "\n" for own in PLAIN] + [own + "\n x" for own in PLAIN]:
            self.assertIs(is_request(thing), False, thing)
        for thing in ("roads\nroads", "run\n run\nroads", "run\n run\n", "run\nrun", " run\n run", "run\n\n run"):
            self.assertIs(is_request(thing), False, thing)
        for thing in samples.ODD_THINGS + list(nests()) + [10**3000, ("roads",), ["roads"]]:
            self.assertIs(is_request(thing), False)

    def test_beside_desk(self):
        """A string is a request just if a desk gives one reply to it."""
        draw = random.Random(204)
        told = {True: 0, False: 0}
        for _ in range(3000):
            text = draw.choice(PLAIN + [own + "\n x" for own in TEXTS])
            at = draw.randrange(len(text) + 1)
            bent = text[:at] + draw.choice(["", "", " ", "\n", "0", "1", "\n "]) + text[at + draw.randrange(2) :]
            try:
                plain = len(desk(bent)) == 1
            except BadLine:
                plain = False
            self.assertIs(is_request(bent), plain, bent)
            told[plain] += 1
        self.assertGreater(min(told.values()), 500)


class CallsTest(unittest.TestCase):
    def test_names_and_new_lists(self):
        for text in ("", "roads\nput 0 1\npast\nundo\nundo", "roads\n", "run\n run\nled"):
            check_calls(self, desk, text)
        for thing in ("roads", "", None, ["roads"], 3):
            check_calls(self, is_request, thing)


if __name__ == "__main__":
    unittest.main()
