"""[21]: every name of the interface stands in its file, with its parameters as they are named."""

import importlib
import inspect
import unittest

INTERFACE = {
    "machines": (
        "is_word(thing), is_machine(thing), letters_in(machine), state_behind(machine, word), takes(machine, word), "
        "least(machine), are_alike(one, other), parting_word(one, other)"
    ),
    "doings": (
        "doing(machine, word), product(one, other), doings(machine), is_doing(machine, thing), "
        "word_for(machine, one), halted(one), halting(machine), commutes(machine), crossed(machine), "
        "surroundings(machine, one, other), is_surroundings(machine, one, other, thing)"
    ),
    "runs": (
        "is_run(thing), roads(run), is_at_rest(run), can_take(run, side), puts_of(run), seen(run, number), "
        "known(run, side), settled(run), exchanged(run)"
    ),
    "weavings": (
        "is_weaving(run, thing), is_weaving_of(run, numbers, thing), reads(run, weaving), free_pairs(run), "
        "weaving_count(run), weaving_at(run, number), place_of(run, weaving), otherwise(run, one, other), "
        "order_of(run, side), states_come(machine, run), answers_come(machine, run), weaving_to(machine, run, state)"
    ),
    "keepers": (
        "is_keeper(thing), is_pair(thing), letters_of(keeper), marks_of(keeper), stands_behind(pair, run), "
        "stands_along(pair, run), answers(pair, run), marks_sent(pair, run), bare_roads(pair), "
        "refutes(pair, machine, thing)"
    ),
    "ranks": (
        "ranks(run), bits(run), ranks_now(run), ranks_told(side, told), laps(run), rank_weaving(run), "
        "rank_order(run, side), moved(run), is_ranked(puts, thing), ranked_run(puts, told)"
    ),
    "bits": "note_behind(machine, run, side), notes_of(machine, side), bit_pair(machine)",
    "bare": (
        "crossing_of(machine), is_crossing(machine, thing), crossing_runs(machine, crossing), bare_pair(machine), "
        "is_bare_right(pair, machine), bare_against(pair, machine)"
    ),
    "law": "is_lawful(machine), broken(machine), breach(machine), is_breach(machine, thing), kind(machine)",
    "stages": (
        "room_of(machine, one), rooms(machine), within(machine, room), staying(machine, room), "
        "turned(machine, room, word), turns_joined(one, other), turn_back(turn), led(room, one, turn), "
        "cut_turn(room, lower, turn)"
    ),
    "trees": (
        "tree_of(machine, room, word), appended(machine, room, tree, letter), put_ahead(machine, room, tree, letter), "
        "cut(machine, room, tree, lower), whole(machine, one, tree), left_behind(machine, one, tree, goal, turn)"
    ),
    "oneroad": (
        "first_ends(machine), teller_put(machine, teller, letter), teller_take(machine, teller, letter), "
        "hearer_put(machine, hearer, letter), hearer_take(machine, hearer, told, letter), "
        "hearer_doing(machine, hearer), ends_behind(machine, run, side), ends_come(machine), one_pair(machine, side)"
    ),
    "against": (
        "trials(tale, side, low, high), round_of_trials(pair, tale, side), road_against(pair, machine, side), "
        "order_against(pair, machine, side), is_order_against(pair, machine, side, thing)"
    ),
    "groups": (
        "conjugates(machine, letter), states_led(machine, letter), fewest_marks(machine, letter), "
        "is_marks_table(machine, letter, thing), telling_words(machine, letter), is_telling(machine, letter, thing), "
        "marks_with(keeper, letter), group_pair(machine, side), few_against(pair, machine, side, letter)"
    ),
    "texts": (
        "machine_text(machine), run_text(run), keeper_text(keeper), pair_text(pair), machine_read(text), "
        "run_read(text), keeper_read(text), pair_read(text)"
    ),
    "judge": (
        "is_claim(thing), is_so(claim), paper(claim), is_paper_for(claim, thing), is_paper_against(claim, thing), "
        "verdicts(claims, things), comes_of(claim, claims), first_false(claims)"
    ),
    "desk": "desk(text), is_request(thing)",
}
ERRORS = {"NoPlace": "place", "BadLine": "line", "CanNot": "", "TooMuch": "", "Unfit": ""}


class InterfaceTest(unittest.TestCase):
    def test_functions_are_defined_in_their_file_with_their_parameters(self):
        for name, listed in INTERFACE.items():
            module = importlib.import_module("bothroads." + name)
            for told in listed.replace("), ", ")\n").split("\n"):
                own, _, names = told.rstrip(")").partition("(")
                function = getattr(module, own)
                self.assertEqual(function.__module__, "bothroads." + name, own)
                self.assertTrue(inspect.isfunction(function), own)
                self.assertEqual(list(inspect.signature(function).parameters), names.split(", "), own)

    def test_error_classes_are_defined_in_their_file(self):
        module = importlib.import_module("bothroads.errors")
        for name, attribute in ERRORS.items():
            own = getattr(module, name)
            self.assertEqual(own.__module__, "bothroads.errors")
            if attribute:
                self.assertEqual(list(inspect.signature(own).parameters), [attribute])


if __name__ == "__main__":
    unittest.main()
