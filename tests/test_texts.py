"""[19]: texts of MACHINES, RUNS, KEEPERS and PAIRS, there and back, and lines that can not stand there."""

import random
import unittest

import samples
from calls import check_calls
from walks import BOTH_BARE, COUNT, HEAR, LATEST, LEAD, ONE_BARE, OPEN, SOME, STUCK, drawn_pairs, drawn_runs
from bothroads.bits import bit_pair
from bothroads.errors import BadLine, Unfit
from bothroads.texts import (
    keeper_read,
    keeper_text,
    machine_read,
    machine_text,
    pair_read,
    pair_text,
    run_read,
    run_text,
)

MACHINES = samples.ALL + samples.drawn_machines(60, 191, states=12)
RUNS = SOME + [OPEN] + drawn_runs(60, 192, events=60, letters=3)
PAIRS = drawn_pairs(40, 193, letters=3, marks=4) + BOTH_BARE + ONE_BARE + [bit_pair(samples.LAST)]
KEEPERS = [own for pair in PAIRS for own in pair] + [LEAD, HEAR, STUCK, COUNT]
READERS = (machine_read, run_read, keeper_read, pair_read)


class Case(unittest.TestCase):
    def bad(self, read, text, line):
        with self.assertRaises(BadLine, msg=(read.__name__, text)) as caught:
            read(text)
        self.assertEqual(caught.exception.line, line, (read.__name__, text))

    def unfit(self, read, text):
        self.assertRaises(Unfit, read, text)


class ThereAndBackTest(Case):
    def test_what_is_written_is_read(self):
        for write, read, values in (
            (machine_text, machine_read, MACHINES),
            (run_text, run_read, RUNS),
            (keeper_text, keeper_read, KEEPERS),
            (pair_text, pair_read, PAIRS),
        ):
            for value in values:
                text = write(value)
                self.assertEqual(repr(read(text)), repr(value))
                self.assertEqual(write(read(text)), text)
                # It has just this text: with anything behind it, or ahead, it is none.
                lines = len(text.split("\n"))
                self.bad(read, text + "\n", lines + 1)
                self.bad(read, "\n" + text, 1)
                self.bad(read, " " + text, 1)
                self.bad(read, text + " ", lines)

    def test_what_is_read_has_the_text(self):
        """Texts that are bent in one place are none, or are that of another value."""
        draw = random.Random(194)
        read_anew = 0
        for write, read, values in (
            (machine_text, machine_read, MACHINES[::9]),
            (run_text, run_read, RUNS[::9]),
            (keeper_text, keeper_read, KEEPERS[::9]),
            (pair_text, pair_read, PAIRS[::9]),
        ):
            for value in values:
                text = write(value)
                for _ in range(120):
                    at = draw.randrange(len(text) + 1)
                    bent = (
                        text[:at]
                        + draw.choice(["", "0", "1", "7", " ", "\n", "x", "-", "y"])
                        + text[at + draw.randrange(2) :]
                    )
                    try:
                        told = read(bent)
                    except (BadLine, Unfit):
                        continue
                    read_anew += bent != text
                    self.assertEqual(write(told), bent)
        self.assertGreater(read_anew, 100)

    def test_great_ones(self):
        many = 500
        machine = (tuple([((own * 7 + 1) % many, own) for own in range(many)]), tuple(range(0, many, 3)))
        self.assertEqual(machine_read(machine_text(machine)), machine)
        run = ((0, 999999999999), (1, 1)) * 900
        self.assertEqual(run_read(run_text(run)), run)
        keeper = ((True,) * many, (((0, 10**11),),) * many, (((many - 1,) * 8,),) * many)
        self.assertEqual(keeper_read(keeper_text(keeper)), keeper)

    def test_texts_as_they_stand(self):
        self.assertEqual(machine_text(samples.NEVER), "machine 3\nstate 0 0 0\nends")
        self.assertEqual(machine_text(samples.BEGINS), "machine 2\nstate 1 2\nstate 1 1\nstate 2 2\nends 1")
        self.assertEqual(run_text(()), "run")
        self.assertEqual(keeper_text(HEAR), "keeper 1 2\nanswers no yes\nputs 1 0\ntakes 1 1\nputs 0 0\ntakes 0 0")
        self.assertEqual(pair_text((LEAD, HEAR)), keeper_text(LEAD) + "\n" + keeper_text(HEAR))


class LinesTest(Case):
    def test_the_empty_text(self):
        for read in READERS:
            self.bad(read, "", 1)
            self.bad(read, "\n", 1)
            self.bad(read, " ", 1)

    def test_machines(self):
        for text, line in (
            ("machine", 1),
            ("machine 0\nends", 1),
            ("machine 1 1\nstate 0\nends", 1),
            ("machine 01\nstate 0\nends", 1),
            ("machine x\nstate 0\nends", 1),
            ("machine -1\nstate 0\nends", 1),
            ("Machine 1\nstate 0\nends", 1),
            ("machine  1\nstate 0\nends", 1),
            ("machine\n1\nstate 0\nends", 1),
            ("run\nstate 0\nends", 1),
            ("machine 1", 2),
            ("machine 1\nends", 2),
            ("machine 1\n\nstate 0\nends", 2),
            ("machine 1\nstate\nends", 2),
            ("machine 1\nstate 0 0\nends", 2),
            ("machine 2\nstate 0\nends", 2),
            ("machine 2\nstate 0 00\nends", 2),
            ("machine 2\nstate 0 +1\nends", 2),
            ("machine 2\nstate  0 0\nends", 2),
            ("machine 1\nstates 0\nends", 2),
            ("machine 1\nstate 0", 3),
            ("machine 1\nstate 0\n", 3),
            ("machine 1\nstate 0\nend", 3),
            ("machine 1\nstate 0\nstate\nends", 3),
            ("machine 1\nstate 0\nends ", 3),
            ("machine 1\nstate 0\nends 0 0", 3),
            ("machine 1\nstate 0\nends 5 3", 3),
            ("machine 1\nstate 0\nends x", 3),
            ("machine 1\nstate 0\nends 00", 3),
            ("machine 1\nstate 0\nends 0\n", 4),
            ("machine 1\nstate 0\nends 0\nstate 0", 4),
            ("machine 1\nstate 0\nends\nends", 4),
            ("machine 999999999999\nstate 0\nends", 2),
            # What a number names need not be there, so long as no line is bad.
            ("machine 1\nstate 7\nends 9 8", 3),
        ):
            self.bad(machine_read, text, line)
        for text in (
            "machine 1\nstate 1\nends",
            "machine 1\nstate 0\nends 1",
            "machine 2\nstate 0 999999999999\nends 0 3",
        ):
            self.unfit(machine_read, text)

    def test_runs(self):
        for text, line in (
            ("runs", 1),
            ("run 1", 1),
            ("run ", 1),
            ("run\n", 2),
            ("run\nput 0", 2),
            ("run\nput 0 0", 2),
            ("run\nput 0 01", 2),
            ("run\nput 00 1", 2),
            ("run\nput 0 1 1", 2),
            ("run\nput -0 1", 2),
            ("run\ntake", 2),
            ("run\ntake 0 0", 2),
            ("run\ntake x", 2),
            ("run\ngive 0", 2),
            ("run\nput 0 1\n\ntake 1", 3),
            ("run\nput 0 1\ntake 1\n", 4),
            ("run\nput 0 1\ntake 1\nrun", 4),
            # A side that is none is not asked there.
            ("run\nput 5 1\nput 0 0", 3),
            ("run\ntake 0\ntake", 3),
        ):
            self.bad(run_read, text, line)
        for text in (
            "run\ntake 0",
            "run\nput 2 1",
            "run\nput 0 1\ntake 0",
            "run\nput 0 1\ntake 1\ntake 1",
            "run\ntake 7",
        ):
            self.unfit(run_read, text)
        self.assertEqual(run_read("run\nput 0 999999999999\ntake 1"), ((0, 999999999999), (1, 0)))

    def test_keepers(self):
        good = "keeper 1 2\nanswers no yes\nputs 1 0\ntakes 1 1\nputs 0 0\ntakes 0 0".split("\n")
        self.assertEqual(keeper_read("\n".join(good)), HEAR)
        for at, line in (
            (1, "keeper 1"),
            (1, "keeper 1 2 3"),
            (1, "keeper 0 2"),
            (1, "keeper 1 0"),
            (1, "keeper 1 02"),
            (1, "keepers 1 2"),
            (1, ""),
            (2, "answers"),
            (2, "answers no maybe"),
            (2, "answers no  yes"),
            (2, "answers no yes "),
            (2, "answers No yes"),
            (2, "answer no yes"),
            (2, "puts 1 0"),
            (3, "puts 1"),
            (3, "puts 1 0 0"),
            (3, "puts 1 00"),
            (3, "takes 1 1"),
            (4, "takes 1"),
            (4, "takes 1 1 1"),
            (4, "takes 1 x"),
            (4, "puts 1 1"),
            (5, "take 0 0"),
            (6, ""),
            (6, "takes 0 0 "),
        ):
            self.bad(keeper_read, "\n".join(good[: at - 1] + [line] + good[at:]), at)
        for many in range(6):
            self.bad(keeper_read, "\n".join(good[:many]), many + 1)
        for line in good + ["", "end"]:
            self.bad(keeper_read, "\n".join(good + [line]), 7)
        self.bad(keeper_read, "\n".join(good + ["puts 0 0", "takes 0 0"]), 7)
        self.bad(keeper_read, "keeper 2 1\nanswers no\nputs 0 0\ntakes 0 0", 3)
        self.bad(keeper_read, "keeper 999999999999 999999999999\nanswers no\nputs 0 0\ntakes 0 0", 3)
        for at, line in ((3, "puts 2 0"), (4, "takes 1 2"), (5, "puts 9 0"), (6, "takes 999999999999 0")):
            self.unfit(keeper_read, "\n".join(good[: at - 1] + [line] + good[at:]))
        # A mark that none takes is no fault of a KEEPER alone.
        self.assertEqual(keeper_read("\n".join(good[:2] + ["puts 1 77"] + good[3:]))[1][0], ((1, 77),))

    def test_pairs(self):
        first, second = keeper_text(LEAD).split("\n"), keeper_text(HEAR).split("\n")
        self.assertEqual(pair_read("\n".join(first + second)), (LEAD, HEAR))
        for many in range(len(first + second)):
            self.bad(pair_read, "\n".join((first + second)[:many]), many + 1)
        self.bad(pair_read, "\n".join(first + [""] + second), len(first) + 1)
        self.bad(pair_read, "\n".join(first + second + second), len(first + second) + 1)
        self.bad(pair_read, "\n".join(first + ["answers yes"] + second[1:]), len(first) + 1)
        self.bad(pair_read, "\n".join(first + second[:2] + ["puts 1 01"] + second[3:]), len(first) + 3)
        # KEEPERS that do not go together: unlike many letters, marks that are not taken; a STAND that is not there.
        self.unfit(pair_read, keeper_text(COUNT) + "\n" + keeper_text(LATEST))
        self.unfit(pair_read, keeper_text(LEAD) + "\n" + keeper_text(LEAD))
        self.unfit(pair_read, keeper_text(HEAR) + "\n" + keeper_text(LEAD).replace("takes 0", "takes 2"))
        # A bad line goes ahead of what does not go together.
        self.bad(pair_read, keeper_text(LEAD) + "\n" + keeper_text(LEAD) + "\n", 13)

    def test_each_line_of_each_bent(self):
        """A word more or less, a needless 0, a blank more, another word: the line with it is told."""
        for write, read, value in (
            (machine_text, machine_read, samples.TWO_ODD),
            (machine_text, machine_read, samples.CUBE),
            (run_text, run_read, OPEN),
            (keeper_text, keeper_read, LATEST),
            (keeper_text, keeper_read, HEAR),
            (pair_text, pair_read, (LEAD, HEAR)),
        ):
            lines = write(value).split("\n")
            for at, line in enumerate(lines):
                word, _, rest = line.partition(" ")
                bent = [
                    " " + line,
                    line + " ",
                    line + " x",
                    "x" + line,
                    line.upper(),
                    word + "  " + rest,
                    "",
                    "\n" + line,
                ]
                bent.append(word + " 0" + rest if rest[:1] in list("0123456789") and rest else "x")
                if word != "ends":
                    bent.append(line + " 0")
                    bent.extend([line.rpartition(" ")[0]] if rest and word != "answers" else [])
                for own in bent:
                    self.bad(read, "\n".join(lines[:at] + [own] + lines[at + 1 :]), at + 1)

    def test_other_signs(self):
        for sign in ("~", "!", "-", "+", ".", "_", ",", "'", '"'):
            self.bad(run_read, "run\nput 0 1" + sign, 2)
            self.bad(run_read, "run\nput 0 " + sign, 2)
            self.bad(machine_read, "machine 1" + sign + "\nstate 0\nends", 1)
            self.bad(machine_read, "machine 1\nstate 0\nends " + sign, 3)


class CallsTest(unittest.TestCase):
    def test_lists_names_and_nothing_changed(self):
        for machine in (samples.ODD, samples.CUBE, samples.NEVER):
            check_calls(self, machine_text, machine)
            check_calls(self, machine_read, machine_text(machine))
        for run in (OPEN, ()):
            check_calls(self, run_text, run)
            check_calls(self, run_read, run_text(run))
        for pair in ((LEAD, HEAR), (LATEST, LATEST)):
            check_calls(self, pair_text, pair)
            check_calls(self, pair_read, pair_text(pair))
            check_calls(self, keeper_text, pair[0])
            check_calls(self, keeper_read, keeper_text(pair[0]))
        for read in READERS:
            for text in ("", "run\ntake 0", "machine 1\nstate 1\nends", "run\n"):
                check_calls(self, read, text)


if __name__ == "__main__":
    unittest.main()
