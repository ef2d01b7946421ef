"""The examples of DOC.md, section by section, as they stand there, and those of README.md."""

import ast
import doctest
import pathlib
import unittest

from calls import shown
from bothroads import (
    against,
    bare,
    bits,
    desk,
    doings,
    errors,
    groups,
    judge,
    keepers,
    law,
    machines,
    oneroad,
    ranks,
    runs,
    stages,
    texts,
    trees,
    weavings,
)

MODULES = (
    errors,
    machines,
    doings,
    runs,
    weavings,
    keepers,
    ranks,
    bits,
    bare,
    law,
    stages,
    trees,
    oneroad,
    against,
    groups,
    texts,
    judge,
    desk,
)

SECTION_4 = """
    >>> odd, begins, last = (((1,), (0,)), (1,)), (((1, 2), (1, 1), (2, 2)), (1,)), (((1, 0), (1, 0)), (1,))
    >>> takes(odd, (1, 1, 1)), state_behind(begins, (2, 1)), takes(last, (1, 2)), letters_in(begins), is_word((0, 1)), is_word(())
    (True, 2, False, 2, False, True)
    >>> least((((1,), (2,), (3,), (0,)), (1, 3))), least(begins) == begins, least((((0, 1), (1, 0)), ()))
    ((((1,), (0,)), (1,)), True, (((0, 0),), ()))
    >>> are_alike(odd, (((1,), (2,), (3,), (0,)), (1, 3))), parting_word(begins, last), parting_word(odd, odd), parting_word(last, (((0, 0),), ()))
    (True, (1, 2), None, (1,))
    >>> takes(odd, (1, 2))
    raises NoPlace(place=2)
"""

SECTION_5 = """
    >>> pulse, opening, put_over = (((1,), (0,)), (1,)), (((1, 2), (1, 1), (2, 2)), (1,)), (((1, 0), (1, 0)), (1,))
    >>> spins = (((1, 0), (0, 2), (2, 1)), (0,))
    >>> doings(pulse), doings(put_over), doings(opening), len(doings(spins))
    (((0, 1), (1, 0)), ((0, 0), (0, 1), (1, 1)), ((0, 1, 2), (1, 1, 2), (2, 1, 2)), 6)
    >>> doing(spins, (1, 2)), product((1, 0, 2), (0, 2, 1)), word_for(spins, (2, 1, 0)), word_for(spins, (0, 1, 2)), is_doing(pulse, (1, 1))
    ((2, 0, 1), (2, 0, 1), (1, 2, 1), (), False)
    >>> halted((1, 2, 3, 1)), halted((2, 0, 1)), halted((1, 1)), halting(spins), halting(put_over)
    ((3, 1, 2, 3), (0, 1, 2), (1, 1), ((0, 1, 2),), ((0, 0), (0, 1), (1, 1)))
    >>> [commutes(own) for own in (pulse, opening, put_over, spins)], crossed(opening), crossed(put_over)
    ([True, False, False, False], (1, 2), (1, 2))
    >>> surroundings(put_over, (0, 0), (1, 1)), surroundings(spins, (0, 1, 2), (0, 2, 1)), surroundings(put_over, (0, 1), (0, 0))
    (((), ()), ((1,), (1,)), ((1,), ()))
    >>> is_surroundings(put_over, (0, 1), (0, 0), ((1, 1), ())), is_surroundings(put_over, (0, 1), (0, 0), ((), ()))
    (True, False)
    >>> crossed(pulse)
    raises CanNot()
    >>> word_for(pulse, (1, 1))
    raises Unfit()
"""

SECTION_6 = """
    >>> meet = ((0, 2), (1, 1), (1, 0), (1, 3), (0, 0))
    >>> is_run(meet), roads(meet), is_at_rest(meet), can_take(meet, 0), can_take(meet, 1), puts_of(meet)
    (True, ((3,), ()), False, True, False, ((0, 2), (1, 1), (1, 3)))
    >>> [seen(meet, own) for own in (0, 1, 2)], known(meet, 0), known(meet, 1)
    ([(), (), (0, 1)], (0, 1), (0, 1, 2))
    >>> settled(meet), settled(((0, 1), (1, 1))), exchanged(meet)
    (((0, 2), (1, 1), (1, 0), (1, 3), (0, 0), (0, 0)), ((0, 1), (1, 1), (0, 0), (1, 0)), ((1, 2), (0, 1), (0, 0), (0, 3), (1, 0)))
    >>> is_run(()), is_run(((0, 0),)), is_run(((0, 1), (0, 0))), is_run(((0, 1), (1, 0), (1, 0))), is_run(((2, 1),)), is_run([(0, 1)]), is_run(((0, True),)), is_run(((0, -1),))
    (True, False, False, False, False, False, False, False)
    >>> roads(()), is_at_rest(()), puts_of(()), known((), 1), settled(())
    (((), ()), True, (), (), ())
    >>> seen(meet, 3)
    raises NoPlace(place=3)
"""

SECTION_7 = """
    >>> crossed_run, last = ((0, 1), (1, 2), (0, 0), (1, 0)), (((1, 0), (1, 0)), (1,))
    >>> weaving_count(crossed_run), order_of(crossed_run, 0), order_of(crossed_run, 1), states_come(last, crossed_run), answers_come(last, crossed_run)
    (2, (0, 1), (1, 0), (0, 1), (False, True))
    >>> weaving_to(last, crossed_run, 1), reads(crossed_run, (1, 0)), free_pairs(crossed_run), otherwise(crossed_run, (0, 1), (1, 0))
    ((1, 0), (2, 1), ((0, 1),), ((0, 1),))
    >>> later = ((0, 1), (0, 2), (1, 1), (1, 0), (1, 2), (0, 0))
    >>> weaving_count(later), [weaving_at(later, k) for k in range(5)], place_of(later, (2, 0, 1, 3))
    (5, [(0, 1, 2, 3), (0, 2, 1, 3), (0, 2, 3, 1), (2, 0, 1, 3), (2, 0, 3, 1)], 3)
    >>> free_pairs(later), order_of(later, 0), order_of(later, 1), reads(later, (2, 0, 3)), reads(later, ())
    (((0, 2), (1, 2), (1, 3)), (0, 1, 2), (2, 0, 3), (1, 1, 2), ())
    >>> is_weaving(later, (0, 2, 3, 1)), is_weaving(later, (2, 3, 0, 1)), is_weaving(later, (0, 1, 2)), is_weaving_of(later, (0, 1, 2), (2, 0, 1)), is_weaving(later, [0, 1, 2, 3])
    (True, False, False, True, False)
    >>> states_come(last, later), answers_come(last, later), otherwise(later, (0, 1, 2, 3), (2, 0, 3, 1))
    ((0,), (False,), ((0, 2), (1, 2), (1, 3)))
    >>> weaving_to(last, later, 1)
    raises CanNot()
    >>> reads(later, (3, 0))
    raises Unfit()
    >>> weaving_at(later, 5)
    raises NoPlace(place=5)
"""

SECTION_8 = """
    >>> odd = (((1,), (0,)), (1,))
    >>> count = ((False, True), (((1, 0),), ((0, 0),)), (((1,),), ((0,),)))
    >>> lead = ((False, True), (((1, 0),), ((0, 1),)), (((1,),), ((0,),)))
    >>> hear = ((False, True), (((1, 0),), ((0, 0),)), (((1, 1),), ((0, 0),)))
    >>> is_keeper(lead), is_pair((count, count)), is_pair((lead, hear)), is_pair((lead, lead)), is_pair([count, count]), letters_of(lead), marks_of(lead), marks_of(hear)
    (True, True, True, False, False, 1, 1, 2)
    >>> twice = ((0, 1), (0, 1), (1, 0), (1, 1))
    >>> stands_behind((lead, hear), twice), answers((lead, hear), twice), marks_sent((lead, hear), twice), bare_roads((lead, hear)), bare_roads((count, count))
    ((0, 0), (False, False), (0, 1, 0), (1,), (0, 1))
    >>> stands_along((lead, hear), twice)
    [(0, 0), (1, 0), (0, 0), (0, 1), (0, 0)]
    >>> later, last = ((False, True), (((1, 0), (0, 0)),) * 2, (((1,), (0,)),) * 2), (((1, 0), (1, 0)), (1,))
    >>> cross = ((0, 1), (1, 2), (0, 0), (1, 0))
    >>> answers((later, later), cross), refutes((later, later), last, cross), refutes((later, later), last, cross[:3]), refutes((later, later), last, ((0, 1), (1, 0)))
    ((False, True), True, False, False)
    >>> never = ((False,), (((0, 0), (0, 0)),), (((0,), (0,)),))
    >>> refutes((never, never), last, ((0, 2), (1, 0), (1, 1), (0, 0))), refutes((never, never), last, cross), refutes((count, count), odd, ((0, 2), (1, 0)))
    (True, False, False)
    >>> answers((count, count), cross)
    raises Unfit()
    >>> refutes((count, count), last, ())
    raises Unfit()
"""

SECTION_9 = """
    >>> way = ((0, 1), (1, 2), (1, 0), (1, 3), (0, 0), (0, 1))
    >>> ranks(way), bits(way), ranks_now(way), rank_order(way, 0), rank_order(way, 1), rank_weaving(way)
    ((0, 1, 1, 2), (0, 0, 0, 1), (2, 1), (0, 1, 3), (0, 1, 2), (0, 1, 2, 3))
    >>> laps(way), moved(way), ranks_told(0, (0, 1, 1, 0)), ranks_told(1, (1,))
    (((0, (0,)), (1, (1, 2)), (2, (3,))), (1, 0), (0, 2, 2, 4), (3,))
    >>> meet = ((1, 1), (0, 2), (0, 2), (0, 0), (1, 0), (1, 3), (0, 1), (1, 0))
    >>> ranks(meet), moved(meet), rank_weaving(meet), rank_order(meet, 1), ranks_now(())
    ((1, 0, 0, 1, 2), (0, 1, 2), (1, 2, 0, 3, 4), (1, 2, 0, 3), (0, 1))
    >>> ranked_run(((0, 1), (1, 2), (0, 1)), (0, 1, 2)), ranked_run(((0, 1), (1, 2), (0, 1)), (0, 1, 0)), ranked_run(((1, 1), (0, 2)), (1, 2))
    (((0, 1), (1, 2), (0, 0), (0, 1)), ((0, 1), (1, 2), (0, 1)), ((1, 1), (0, 0), (0, 2)))
    >>> is_ranked(((0, 1), (1, 2)), (0, 1)), is_ranked(((0, 1), (1, 2)), (0, 3)), is_ranked(((0, 1), (0, 2)), (0, 2)), is_ranked((), ())
    (True, False, False, True)
    >>> ranked_run(((0, 1), (0, 2)), (0, 2))
    raises CanNot()
"""

SECTION_10 = """
    >>> lone, last = (((0,),), (0,)), (((1, 0), (1, 0)), (1,))
    >>> bit_pair(lone)[0]
    ((True, True, True, True), (((0, 0),), ((2, 1),), ((2, 1),), ((0, 0),)), (((1, 0),), ((1, 1),), ((2, 3),), ((3, 3),)))
    >>> bit_pair(lone)[1][2], notes_of(lone, 1)
    ((((0, 1),), ((1, 1),), ((3, 2),), ((3, 3),)), ((0, (0,), False, 0), (0, (0,), True, 0), (0, (0,), False, 1), (0, (0,), True, 1)))
    >>> crossing = ((0, 1), (1, 2), (1, 0), (0, 0))
    >>> note_behind(last, crossing, 0), note_behind(last, crossing, 1), note_behind(last, crossing[:1], 0), note_behind(last, (), 1)
    ((0, (0, 1), True, 0), (1, (0, 0), False, 0), (0, (1, 1), False, 0), (0, (0, 1), False, 0))
    >>> note_behind(last, crossing + ((0, 1),), 0), note_behind(last, crossing + ((0, 1), (1, 0)), 1)
    ((0, (1, 1), False, 1), (1, (0, 1), True, 0))
    >>> len(notes_of(last, 0)), notes_of(last, 0)[:3], bit_pair(last)[0][1][0]
    (14, ((0, (0, 1), False, 0), (0, (1, 1), False, 0), (0, (0, 0), False, 0)), ((1, 0), (2, 0)))
    >>> note_behind(lone, ((0, 2),), 0)
    raises NoPlace(place=2)
"""

SECTION_11 = """
    >>> beat, front, over, thrown = (((1,), (0,)), (1,)), (((1, 2), (1, 1), (2, 2)), (1,)), (((1, 0), (1, 0)), (1,)), (((1, 0), (0, 2), (2, 1)), (0,))
    >>> crossing_of(front), crossing_of(over), crossing_of(thrown), is_crossing(over, ((2,), 2, 1, ())), is_crossing(over, ((), 1, 2, (1,)))
    (((), 1, 2, ()), ((), 1, 2, ()), ((), 1, 2, (1,)), True, False)
    >>> crossing_runs(front, ((), 1, 2, (1,)))
    (((0, 1), (1, 2), (0, 0), (1, 0), (0, 1), (1, 0)), ((0, 1), (1, 0), (1, 2), (0, 0), (0, 1), (1, 0)), ((1, 2), (0, 0), (0, 1), (1, 0), (0, 1), (1, 0)))
    >>> bare_pair(beat)[0], bare_pair(beat)[0] == bare_pair(beat)[1]
    (((False, True), (((1, 0),), ((0, 0),)), (((1,),), ((0,),))), True)
    >>> own = ((False, True), (((1, 0), (0, 0)),) * 2, (((1,), (0,)),) * 2)
    >>> is_bare_right(bare_pair(beat), beat), is_bare_right((own, own), over), refutes((own, own), over, bare_against((own, own), over))
    (True, False, True)
    >>> stuck = ((False,), (((0, 0),),), (((0,),),))
    >>> is_bare_right((stuck, stuck), beat), len(bare_against((stuck, stuck), beat)) > 1
    (False, True)
    >>> bare_pair(front)
    raises CanNot()
    >>> bare_against(bare_pair(beat), beat)
    raises CanNot()
    >>> crossing_runs(beat, ((), 1, 1, ()))
    raises Unfit()
"""

SECTION_12 = """
    >>> pulse, opening, put_over = (((1,), (0,)), (1,)), (((1, 2), (1, 1), (2, 2)), (1,)), (((1, 0), (1, 0)), (1,))
    >>> spins, in_turn = (((1, 0), (0, 2), (2, 1)), (0,)), (((1, 0), (1, 2), (2, 2)), (2,))
    >>> [kind(own) for own in (pulse, opening, put_over, spins, in_turn)], [is_lawful(own) for own in (pulse, opening, put_over, spins, in_turn)]
    (['none', 'one', 'both', 'one', 'both'], [True, True, False, True, False])
    >>> broken(put_over), broken(in_turn), broken(spins)
    ((((0, 0), 1), ((1, 1), 2)), (((0, 2, 2), 1),), ())
    >>> breach(put_over), breach(in_turn)
    (((), (1,), (2,), ()), ((), (2,), (1,), ()))
    >>> [is_breach(put_over, own) for own in (((), (2,), (1,), ()), ((2,), (1,), (2, 2), ()), ((), (1,), (2,), (1,)), ((), (1,), (1,), ()), [(), (1,), (2,), ()])]
    [True, True, False, False, False]
    >>> is_breach(in_turn, ((1,), (2,), (1,), ())), is_breach(in_turn, ((), (2, 1), (2,), ())), is_breach(in_turn, ((), (2,), (2, 1), ()))
    (False, False, True)
    >>> breach(opening)
    raises CanNot()
"""

SECTION_13 = """
    >>> begins, three = (((1, 2), (1, 1), (2, 2)), (1,)), (((1, 0), (0, 2), (2, 1)), (0,))
    >>> switch = (((0, 1), (2, 1), (1, 2)), (2,))
    >>> full, near, far = rooms(switch)
    >>> full == room_of(switch, (0, 2, 1)), near, far, len(full)
    (True, ((1, 1, 2), (2, 2, 1)), ((1, 2, 1), (2, 1, 2)), 6)
    >>> rooms(begins), [len(own) for own in rooms(three)]
    ((((0, 1, 2), (1, 1, 2), (2, 1, 2)), ((1, 1, 2),), ((2, 1, 2),)), [6])
    >>> staying(switch, full), staying(switch, near), staying(begins, rooms(begins)[0]), within(switch, full) == (near, far), within(switch, far)
    ((1,), (1, 2), (), True, ())
    >>> turned(switch, full, (1,)), turned(switch, near, (1, 2, 2)), turned(switch, near, (2,)), turned(three, rooms(three)[0], (1, 2))
    ((1, 0, 5, 4, 3, 2), (1, 0), (0, 1), (4, 5, 1, 0, 3, 2))
    >>> turns_joined((1, 2, 0), (0, 2, 1)), turn_back((1, 2, 0)), led(near, (2, 2, 1), (1, 0)), cut_turn(full, far, (1, 0, 5, 4, 3, 2))
    ((2, 1, 0), (2, 0, 1), (1, 1, 2), (1, 0))
    >>> turned(switch, full, (1, 2))
    raises Unfit()
    >>> rooms((((1, 0), (1, 0)), (1,)))
    raises Unfit()
"""

SECTION_14 = """
    >>> light, begun = (((1, 2), (0, 2), (2, 2)), (1,)), (((1, 2), (1, 3), (2, 2), (3, 1)), (1,))
    >>> top = ((0, 1, 2), (1, 0, 2), (2, 2, 2))
    >>> tree_of(light, top, ()), tree_of(light, top, (1, 1, 1)), tree_of(light, top, (1, 1, 1, 2, 1))
    (((0, 1, 2), 0, ()), ((1, 0, 2), 0, ()), ((1, 0, 2), 2, ((((2, 2, 2),), ((0,), 0, ())),)))
    >>> crown, branch, twig = doings(begun), ((1, 1, 2, 3), (3, 3, 2, 1)), ((2, 1, 2, 3), (2, 3, 2, 1))
    >>> oak = tree_of(begun, crown, (1, 2, 2, 2))
    >>> oak == ((0, 1, 2, 3, 4), 1, ((branch, ((1, 0), 0, ())), (twig, ((1, 0), 0, ())))), oak == tree_of(begun, crown, (1, 1, 2))
    (True, True)
    >>> appended(begun, crown, oak, 2) == tree_of(begun, crown, (1,)), put_ahead(begun, crown, oak, 2)[:2], cut(begun, crown, oak, branch)
    (True, ((0, 1, 2, 3, 4), 2), ((1, 0), 0, ()))
    >>> whole(begun, (0, 1, 2, 3), oak), whole(begun, (1, 1, 2, 3), ((1, 0), 0, ()))
    ((3, 3, 2, 1), (3, 3, 2, 1))
    >>> left_behind(begun, (0, 1, 2, 3), oak, (3, 3, 2, 1), (1, 0)), left_behind(begun, (0, 1, 2, 3), oak, (1, 1, 2, 3), (0, 1))
    (((0, 1), 0, ()), ((1, 0), 0, ()))
    >>> left_behind(begun, (0, 1, 2, 3), oak, (0, 1, 2, 3), (0, 1, 2, 3, 4)) == oak
    True
    >>> left_behind(begun, (0, 1, 2, 3), oak, (2, 1, 2, 3), (0, 1))
    raises CanNot()
    >>> cut(begun, branch, ((1, 0), 0, ()), twig)
    raises Unfit()
    >>> tree_of((((1, 0), (1, 0)), (1,)), ((0, 1),), ())
    raises Unfit()
    >>> appended(light, top, ((0, 1, 2), 0, ()), 3)
    raises NoPlace(place=3)
"""

SECTION_15 = """
    >>> begins, switch = (((1, 2), (1, 1), (2, 2)), (1,)), (((0, 1), (2, 1), (1, 2)), (2,))
    >>> meet = ((0, 1), (0, 2), (1, 0), (1, 2), (1, 0), (0, 0))
    >>> ends_behind(switch, meet[:4], 0)[1], ends_behind(switch, meet, 0)
    (((1, 2, 1), (0, 1)), (((1, 2, 1), ((0, 1), 0, ())), ((1, 2, 1), (0, 1))))
    >>> hearer, teller = ends_behind(switch, meet[:3], 0)
    >>> teller, hearer[0], hearer[1][:2], hearer_doing(switch, hearer), teller_put(switch, teller, 2)
    (((0, 2, 1), (1, 0, 5, 4, 3, 2)), (0, 1, 2), ((1, 0, 5, 4, 3, 2), 2), (1, 2, 1), ((1, 2, 1), (0, 1)))
    >>> hearer_take(switch, hearer, teller, 1)[0], [len(own) for own in ends_come(begins)]
    ((0, 2, 1), [5, 3])
    >>> one_pair(begins, 1)[0]
    ((False, True, False), (((1, 0), (2, 0)), ((1, 1), (1, 1)), ((2, 2), (2, 2))), (((1,), (2,)), ((1,), (1,)), ((2,), (2,))))
    >>> one_pair(begins, 1)[1][2]
    (((3, 0, 0), (4, 0, 0)), ((3, 3, 1), (4, 3, 1)), ((3, 2, 4), (4, 2, 4)), ((3, 3, 3), (3, 3, 3)), ((4, 4, 4), (4, 4, 4)))
    >>> hearer_take(begins, first_ends(begins)[0], ((1, 1, 2), (0,)), 1)
    raises CanNot()
    >>> ends_come((((1, 0), (1, 0)), (1,)))
    raises Unfit()
"""

SECTION_16 = """
    >>> last = (((1, 0), (1, 0)), (1,))
    >>> plain = ((False, True), (((1, 0), (0, 0)),) * 2, (((1,), (0,)),) * 2)
    >>> tale = ((), (1,), (2,), ())
    >>> trials(tale, 0, 1, 2)
    (((0, 1), (0, 1), (1, 0), (1, 0), (1, 2), (0, 0)), ((0, 1), (0, 1), (1, 0), (1, 2), (0, 0), (1, 0)), ((0, 1), (1, 0), (1, 2), (0, 0), (0, 1), (1, 0)))
    >>> trials(((2,), (1, 1), (1,), (2, 1)), 1, 1, 2)[2]
    ((1, 2), (0, 0), (1, 1), (0, 0), (1, 1), (0, 0), (0, 1), (1, 0), (1, 1), (0, 0), (1, 1), (0, 0), (1, 2), (0, 0), (1, 1), (0, 0))
    >>> round_of_trials((plain, plain), tale, 0)
    (1, 2)
    >>> [refutes((plain, plain), last, run) for run in trials(tale, 0, 1, 2)], refutes((plain, plain), last, road_against((plain, plain), last, 1))
    ([False, True, False], True)
    >>> [is_order_against((plain, plain), last, 1, run) for run in trials(tale, 0, 1, 2)], is_order_against((plain, plain), last, 0, ())
    ([False, True, False], False)
    >>> odd = (((1, 0), (0, 1)), (1,))
    >>> order_against((plain, plain), odd, 0)
    raises CanNot()
    >>> road_against((plain, plain), (((0,),), ()), 0)
    raises Unfit()
"""

SECTION_17 = """
    >>> wheel, thrown = (((1, 1), (0, 2), (2, 0)), (0,)), (((1, 0), (0, 2), (2, 1)), (0,))
    >>> conjugates(wheel, 2), conjugates(thrown, 1), [fewest_marks(wheel, own) for own in (1, 2)], fewest_marks((((1,), (0,)), (1,)), 1)
    (((1, 2, 0), (2, 0, 1)), ((0, 2, 1), (1, 0, 2), (2, 1, 0)), [3, 2], 1)
    >>> states_led(wheel, 2), is_marks_table(wheel, 2, ((0, 1, 2),) * 3), is_marks_table(wheel, 2, ((1,), (2,), (0,)))
    (((1, 2), (0, 2), (0, 1)), True, False)
    >>> telling_words(wheel, 2), telling_words(thrown, 1), is_telling(wheel, 2, ((2,), (1, 2))), is_telling(wheel, 2, ((), (2,)))
    (((), (1,)), ((1, 2), (), (2,)), True, False)
    >>> made = group_pair(wheel, 0)
    >>> bare_roads(made), [len(marks_with(made[1], own)) for own in (1, 2)], marks_of(made[0])
    ((0,), [3, 2], 3)
    >>> way = ((0, 2), (0, 1), (1, 0), (1, 1), (1, 2), (1, 0), (0, 0), (0, 0))
    >>> answers(made, way), refutes(made, wheel, way)
    ((True, True), False)
    >>> plain = ((True, False, False), tuple([tuple([(own, 0) for own in row]) for row in thrown[0]]), tuple([tuple([(own,) for own in row]) for row in thrown[0]]))
    >>> refutes((plain, plain), thrown, few_against((plain, plain), thrown, 1, 2)), marks_with(plain, 2)
    (True, (0,))
    >>> few_against(made, wheel, 0, 1)
    raises CanNot()
    >>> few_against(made, wheel, 1, 1)
    raises Unfit()
    >>> fewest_marks((((1, 2), (1, 1), (2, 2)), (1,)), 3)
    raises Unfit()
"""

SECTION_18 = """
    >>> evens, started, ended = (((1,), (0,)), (0,)), (((1, 2), (1, 1), (2, 2)), (1,)), (((1, 0), (1, 0)), (1,))
    >>> fours = (((1,), (2,), (3,), (0,)), (0, 2))
    >>> verdicts((("alike", evens, fours), ("alike", started, ended), ("free", evens), ("free", ended), ("lawful", started), ("lawful", ended)), ((), (1, 2), (), (1, 2), (), ((), (1,), (2,), ())))
    ['for', 'against', 'for', 'against', 'for', 'against']
    >>> meeting = ((0, 1), (1, 2), (0, 0), (1, 0))
    >>> verdicts((("led", started, meeting, 1), ("led", started, meeting, 0), ("led", started, meeting, 2)), ((0, 1), (), (0, 1)))
    ['for', 'against', 'none']
    >>> tally = ((True, False), (((1, 0),), ((0, 0),)), (((1,),), ((0,),)))
    >>> verdicts((("held", (tally, tally), evens, ((0, 1), (1, 0))), ("held", (tally, tally), (evens[0], (1,)), ((0, 1), (1, 0)))), ((0,), ()))
    ['for', 'against']
    >>> swaps = (((1, 0), (0, 2), (2, 1)), (0,))
    >>> verdicts((("marks", swaps, 1, 3), ("marks", swaps, 1, 4), ("marks", swaps, 1, 2)), (((), (2,), (1, 2)), ((0, 1, 2),) * 3, ((), (2,), (1, 2))))
    ['for', 'against', 'none']
    >>> comes_of(("lawful", fours), (("free", evens), ("alike", fours, evens))), comes_of(("marks", swaps, 1, 3), (("marks", swaps, 1, 2),)), first_false((("free", evens), ("free", ended)))
    (True, False, 1)
    >>> is_so(("marks", started, 1, 1))
    raises Unfit()
"""

SECTION_19 = r"""
    >>> even = (((1,), (0,)), (0,))
    >>> machine_text(even), machine_read("machine 2\nstate 0 0\nends")
    ('machine 1\nstate 1\nstate 0\nends 0', (((0, 0),), ()))
    >>> run_text(((0, 1), (1, 2), (1, 0), (0, 0))), run_read("run"), run_read("run\nput 1 12")
    ('run\nput 0 1\nput 1 2\ntake 1\ntake 0', (), ((1, 12),))
    >>> flip = ((True, False), (((1, 0),), ((0, 0),)), (((1,),), ((0,),)))
    >>> keeper_text(flip)
    'keeper 1 1\nanswers yes no\nputs 1 0\ntakes 1\nputs 0 0\ntakes 0'
    >>> keeper_read("keeper 2 3\nanswers no\nputs 0 7 0 0\ntakes 0 0 0 0 0 0")
    ((False,), (((0, 7), (0, 0)),), (((0, 0, 0), (0, 0, 0)),))
    >>> pair_text((flip, flip)) == keeper_text(flip) + "\n" + keeper_text(flip), pair_read(pair_text((flip, flip))) == (flip, flip)
    (True, True)
    >>> run_read("run\nput 0 1\ntake 0")
    raises Unfit()
    >>> run_read("run\nput 0 0")
    raises BadLine(line=2)
    >>> keeper_read("keeper 1 1\nanswers yes\nputs 0 0")
    raises BadLine(line=4)
    >>> pair_read("keeper 1 1\nanswers yes\nputs 0 1\ntakes 0\nkeeper 1 1\nanswers yes\nputs 0 0\ntakes 0")
    raises Unfit()
"""

SECTION_20 = r"""
    >>> beats = "pair\n" + 2 * " keeper 1 1\n answers yes no\n puts 1 0\n takes 1\n puts 0 0\n takes 0\n"
    >>> desk("answers\nheld\n" + beats + "put 0 1\nput 1 1\nput 0 1\ntake 1\nstands\nroads\norder 1\nheld\nsettle\nanswers\nheld\nundo\nroads\ntake 0\ntake 0")
    ['yes, yes', 'yes', 'done', 'done', 'done', 'done', 'done', '0, 0', '1, 1', '1 0', 'refused CanNot', 'done', 'no, no', 'no', 'settle', '1, 1', 'done', 'refused CanNot']
    >>> desk("put 0 2\nmachine\n machine 1\n state 1\n state 0\n ends 1\nrun\n run\n put 1 1\nled\nroads\nundo\nroads\nmachine\n machine 2\n state 0 0\n ends\nled\nput 1 1\npast\nrun\n run\n take 0")
    ['refused Unfit', 'done', 'done', '1', '1, -', 'run', '-, -', 'done', 'refused Unfit', 'done', 'run\nput 1 1', 'refused Unfit']
    >>> is_request("put 0 12"), is_request("put 2 1"), is_request("run"), is_request("run\n x"), is_request("take 1 0")
    (True, False, False, True, False)
    >>> desk("roads\n")
    raises BadLine(line=2)
"""


def steps_of(text):
    """Part a text of examples into pairs of what is run and what is told of it, None for what only sets names."""
    lines = [line.strip() for line in text.strip().split("\n")]
    for at, line in enumerate(lines):
        if line.startswith(">>> "):
            further = lines[at + 1] if at + 1 < len(lines) else ">>> "
            yield line[4:], None if further.startswith(">>> ") else further


class ExamplesTest(unittest.TestCase):
    def run_examples(self, text):
        names = {}
        for module in MODULES:
            names.update({name: own for name, own in vars(module).items() if not name.startswith("_")})
        many = 0
        for code, told in steps_of(text):
            if told is None:
                exec(code, names)
            elif told.startswith("raises "):
                with self.assertRaises((LookupError, ValueError), msg=code) as caught:
                    eval(code, names)
                self.assertEqual(shown(caught.exception), told, code)
            else:
                # By what is shown: 1 and True, a list and a tuple, are told apart.
                self.assertEqual(repr(eval(code, names)), repr(ast.literal_eval(told)), code)
            many += told is not None
        return many

    def test_section_4(self):
        self.assertEqual(self.run_examples(SECTION_4), 4)

    def test_section_5(self):
        self.assertEqual(self.run_examples(SECTION_5), 8)

    def test_section_6(self):
        self.assertEqual(self.run_examples(SECTION_6), 6)

    def test_section_7(self):
        self.assertEqual(self.run_examples(SECTION_7), 9)

    def test_section_8(self):
        self.assertEqual(self.run_examples(SECTION_8), 7)

    def test_section_9(self):
        self.assertEqual(self.run_examples(SECTION_9), 6)

    def test_section_10(self):
        self.assertEqual(self.run_examples(SECTION_10), 6)

    def test_section_11(self):
        self.assertEqual(self.run_examples(SECTION_11), 8)

    def test_section_12(self):
        self.assertEqual(self.run_examples(SECTION_12), 6)

    def test_section_13(self):
        self.assertEqual(self.run_examples(SECTION_13), 7)

    def test_section_14(self):
        self.assertEqual(self.run_examples(SECTION_14), 10)

    def test_section_15(self):
        self.assertEqual(self.run_examples(SECTION_15), 7)

    def test_section_16(self):
        self.assertEqual(self.run_examples(SECTION_16), 7)

    def test_section_17(self):
        self.assertEqual(self.run_examples(SECTION_17), 9)

    def test_section_18(self):
        self.assertEqual(self.run_examples(SECTION_18), 6)

    def test_section_19(self):
        self.assertEqual(self.run_examples(SECTION_19), 9)

    def test_section_20(self):
        self.assertEqual(self.run_examples(SECTION_20), 4)

    def test_readme(self):
        readme = pathlib.Path(__file__).resolve().parent.parent / "README.md"
        told = doctest.testfile(str(readme), module_relative=False)
        self.assertEqual((told.failed, told.attempted > 0), (0, True))


if __name__ == "__main__":
    unittest.main()
