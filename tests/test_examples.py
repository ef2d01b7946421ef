"""The examples of DOC.md, section by section, as they stand there, and those of README.md."""

import ast
import doctest
import pathlib
import unittest

from bothroads import doings, errors, machines

SECTION_4 = """
    >>> odd, begins, last = (((1,), (0,)), (1,)), (((1, 2), (1, 1), (2, 2)), (1,)), (((1, 0), (1, 0)), (1,))
    >>> takes(odd, (1, 1, 1)), state_behind(begins, (2, 1)), takes(last, (1, 2)), letters_in(begins), is_word((0, 1)), is_word(())
    (True, 2, False, 2, False, True)
    >>> least((((1,), (2,), (3,), (0,)), (1, 3))), least(begins) == begins, least((((0, 1), (1, 0)), ()))
    ((((1,), (0,)), (1,)), True, (((0, 0),), ()))
    >>> are_alike(odd, (((1,), (2,), (3,), (0,)), (1, 3))), parting_word(begins, last), parting_word(odd, odd), parting_word(last, (((0, 0),), ()))
    (True, (1, 2), None, (1,))
    >>> takes(odd, (1, 2))
    raises NoPlace(place=2)
"""

SECTION_5 = """
    >>> pulse, opening, put_over = (((1,), (0,)), (1,)), (((1, 2), (1, 1), (2, 2)), (1,)), (((1, 0), (1, 0)), (1,))
    >>> spins = (((1, 0), (0, 2), (2, 1)), (0,))
    >>> doings(pulse), doings(put_over), doings(opening), len(doings(spins))
    (((0, 1), (1, 0)), ((0, 0), (0, 1), (1, 1)), ((0, 1, 2), (1, 1, 2), (2, 1, 2)), 6)
    >>> doing(spins, (1, 2)), product((1, 0, 2), (0, 2, 1)), word_for(spins, (2, 1, 0)), word_for(spins, (0, 1, 2)), is_doing(pulse, (1, 1))
    ((2, 0, 1), (2, 0, 1), (1, 2, 1), (), False)
    >>> halted((1, 2, 3, 1)), halted((2, 0, 1)), halted((1, 1)), halting(spins), halting(put_over)
    ((3, 1, 2, 3), (0, 1, 2), (1, 1), ((0, 1, 2),), ((0, 0), (0, 1), (1, 1)))
    >>> [commutes(own) for own in (pulse, opening, put_over, spins)], crossed(opening), crossed(put_over)
    ([True, False, False, False], (1, 2), (1, 2))
    >>> surroundings(put_over, (0, 0), (1, 1)), surroundings(spins, (0, 1, 2), (0, 2, 1)), surroundings(put_over, (0, 1), (0, 0))
    (((), ()), ((1,), (1,)), ((1,), ()))
    >>> is_surroundings(put_over, (0, 1), (0, 0), ((1, 1), ())), is_surroundings(put_over, (0, 1), (0, 0), ((), ()))
    (True, False)
    >>> crossed(pulse)
    raises CanNot()
    >>> word_for(pulse, (1, 1))
    raises Unfit()
"""


def steps_of(text):
    """Part a text of examples into pairs of what is run and what is told of it, None for what only sets names."""
    lines = [line.strip() for line in text.strip().split("\n")]
    for at, line in enumerate(lines):
        if line.startswith(">>> "):
            further = lines[at + 1] if at + 1 < len(lines) else ">>> "
            yield line[4:], None if further.startswith(">>> ") else further


def shown(error):
    """Show an error as the document does: its class, and by name what it keeps."""
    kept = ", ".join([f"{name}={value!r}" for name, value in vars(error).items()])
    return f"raises {type(error).__name__}({kept})"


class ExamplesTest(unittest.TestCase):
    def run_examples(self, text):
        names = {}
        for module in (errors, machines, doings):
            names.update({name: own for name, own in vars(module).items() if not name.startswith("_")})
        many = 0
        for code, told in steps_of(text):
            if told is None:
                exec(code, names)
            elif told.startswith("raises "):
                with self.assertRaises((LookupError, ValueError), msg=code) as caught:
                    eval(code, names)
                self.assertEqual(shown(caught.exception), told, code)
            else:
                # By what is shown: 1 and True, a list and a tuple, are told apart.
                self.assertEqual(repr(eval(code, names)), repr(ast.literal_eval(told)), code)
            many += told is not None
        return many

    def test_section_4(self):
        self.assertEqual(self.run_examples(SECTION_4), 4)

    def test_section_5(self):
        self.assertEqual(self.run_examples(SECTION_5), 8)

    def test_readme(self):
        readme = pathlib.Path(__file__).resolve().parent.parent / "README.md"
        told = doctest.testfile(str(readme), module_relative=False)
        self.assertEqual((told.failed, told.attempted > 0), (0, True))


if __name__ == "__main__":
    unittest.main()
