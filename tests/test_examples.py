"""The examples of the document, row by row: what is asked, and what is told or raised; those of README.md, too."""

import doctest
import os
import unittest

from tests import helpers

POINT_4 = r"""
>>> least_sum((2, -3), (1, 1)), greatest_sum((2, -3), (1, 1)), step((4, -6)), step((7,)), step(()), sum_of((2, -3), (5, 4)), greatest_sum((10 ** 40, -1), (3, 9)) == 3 * 10 ** 40
(-3, 2, 2, 7, 0, -2, True)
>>> [is_let((2, -3), (1, 1), number) for number in (-4, -3, 1, 3)], [is_let((4, -6), (1, 1), number) for number in (-6, 1, 2, 4)], is_let((), (), 0), is_let((), (), 1)
([False, True, True, False], [True, False, True, True], True, False)
>>> mirrored((2, -3), (1, 1), 0), made_plain((4, -6), (1, 2), 2), made_plain((4, -6), (1, 2), 1), made_plain((4, -6), (1, 2), -14), made_plain((), (), 0)
(-1, ((2, 3), (1, 2), 7), None, ((2, 3), (1, 2), -1), ((), (), 0))
>>> sums((2, -3), (1, 1)), sums((3, 5), (2, 1)), sums((), ()), sums_between((3, 5), (2, 1), 4, 8), sums_between((3, 5), (2, 1), 8, 4)
([-3, -1, 0, 2], [0, 3, 5, 6, 8, 11], [0], [5, 6, 8], [])
>>> is_sum((2, -3), (1, 1), 1), is_sum((2, -3), (2, 1), 1), counters_for((2, -3), (2, 1), 1), counters_for((2, -3), (1, 1), 1), counters_for((), (), 0), how_many_counters((1, 1, 2), (2, 2, 1), 2), how_many_counters((3, 5), (2, 1), 7)
(False, True, (2, 1), None, (), 4, 0)
>>> is_counters_for((1, 1, 2), (2, 2, 1), 2, (0, 0, 1)), is_counters_for((1, 1, 2), (2, 2, 1), 2, (0, 0, 2)), is_counters_for((1, 1, 2), (2, 2, 1), 2, [0, 0, 1]), is_coefficients((1, -2)), is_coefficients((1, 0)), is_coefficients([1]), is_coefficients(()), is_bounds((1, -2), (1, 1)), is_bounds((1, -2), (1, 0)), is_bounds((), ())
(True, False, False, True, False, False, True, True, False, True)
"""

POINT_5 = r"""
>>> is_exact((1, 2, 4), (1, 1, 1)), is_exact((1, 3), (1, 5)), is_exact((1, -3), (2, 5)), is_exact((4, 2), (1, 1)), is_exact((2, 3), (9, 9)), is_exact((), ())
(True, False, True, True, False, True)
>>> chain((4, -1, 2), (1, 1, 1)), chain((1, 3), (1, 5)), chain((2, -2), (1, 1)), chain((), ()), is_chain((2, -2), (1, 1), (1, 0)), is_chain((1, 3), (2, 5), (1, 0)), is_chain((1, 3), (2, 5), [0, 1])
((1, 2, 0), None, (0, 1), (), True, False, False)
>>> first_hole((1, 3), (1, 5)), last_hole((1, 3), (1, 5)), first_hole((-1, 3), (1, 5)), first_hole((2, 3), (1, 1)), first_hole((1, 2), (1, 1)), first_hole((6, 10 ** 30), (3, 1))
(2, 14, 1, 1, None, 2)
>>> whole_to((1, 3), (1, 5)), whole_to((1, -3), (2, 5)), whole_to((2, 3), (9, 9)), whole_to((), ()), whole_to((4, 2, 1, 9), (1, 1, 1, 1))
(1, 2, 0, 0, 7)
>>> exact_from((1, 3)), exact_from((1, 10, 20)), exact_from((2, 3)), exact_from((4, -2)), exact_from(())
(2, 9, None, 1, 1)
>>> bound_needed((1, 3), (1, 5), 0), bound_needed((1, 3), (1, 5), 1), bound_needed((1, 2, 9), (1, 1, 1), 1), bound_needed((1, 3), (7, 7), 1)
(2, None, 4, 1)
>>> idle_counters((1, 2, 4), (1, 1, 1)), idle_counters((1, 1, 2), (1, 1, 1)), idle_counters((5,), (1,)), idle_counters((), ())
((0, 2), (0, 1, 2), (0,), ())
>>> bound_needed((1, 3), (1, 5), 2)
raises NoCounter(place=2)
"""

POINT_6 = r"""
>>> [is_heap((3, -5), number) for number in (0, 3, 4, 7, 8, 10 ** 40, -3)], is_heap((), 0), is_heap((), 5), is_heap((4, 6), 3)
([True, True, False, False, True, True, False], True, False, False)
>>> gaps((3, -5)), gaps((4, 6)), gaps((6, 10, 15))[-3:], gaps((2, 1)), gaps(()), how_many_gaps((6, 10, 15)), [greatest_gap(own) for own in ((3, -5), (4, 6), (2, 1), ())]
([1, 2, 4, 7], [2], [19, 23, 29], [], [], 15, [7, 2, None, None])
>>> [least_in_class((3, 5), 0, number) for number in (0, 1, 2, 7, -1)], least_in_class((3, 5), 1, 1), least_in_class((4, 6), 0, 2), least_in_class((4, 6), 0, 1)
([0, 10, 5, 10, 5], 6, 6, None)
>>> is_halved((3, 5)), is_halved((6, 10, 15)), is_halved((3, 5, 7)), is_halved((4, 6)), is_halved((1, 9)), is_halved(())
(True, True, False, True, True, True)
>>> heap_counts((3, 5), 7), is_heap_counts((3, -5), 11, (2, 1)), is_heap_counts((3, 5), 11, (2, 1, 0)), is_heap_counts((3, 5), 15, heap_counts((3, 5), 15)), heap_counts((), 0), [fewest_counts((1, 5, -8), number) for number in (0, 10, 15, 16, -1)], fewest_counts((4, 6), 9)
(None, True, False, True, (), [0, 2, 3, 2, None], None)
>>> needless((6, 10, 16, 15)), needless((2, -2)), needless((5,)), bare_coefficients((6, -10, 16, 15, 6)), bare_coefficients(())
((2,), (0, 1), (), (6, 10, 15), ())
>>> same_heaps((2, 3), (3, -2, 7)), same_heaps((4, 6), (2, 3)), same_heaps((), (1,))
(True, False, False)
>>> least_in_class((3, 5), 2, 1)
raises NoCounter(place=2)
"""

POINT_7 = r"""
>>> holes((2, 3), (1, 1)), holes((1, 3), (1, 5)), holes((2, -3), (1, 1)), holes((4, 2), (1, 1)), holes((), ()), how_many_holes((3, 5), (5, 1)), [is_hole((3, 5), (5, 1), number) for number in (0, 1, 10, 21)]
([1, 4], [2, 5, 8, 11, 14], [-2, 1], [], [], 9, [False, True, True, False])
>>> parting_holes((3, 5), (5, 1)), parting_holes((3, 5), (4, 1)), is_settled((3, 5), (5, 1)), is_settled((3, 5), (4, 1)), is_settled((1, 3), (1, 5)), is_settled((), ())
([10], [], False, True, False, True)
>>> holes_from_ends((3, 5), (5, 1)), holes_from_ends((3, 5), (1, 1)), holes_from_ends((2, -3), (1, 1)), holes_from_ends((1, 3), (1, 5))
(((1, 2, 4, 7), (13, 16, 18, 19)), ((1, 2, 4, 7), (1, 4, 6, 7)), ((-2,), (1,)), ((), ()))
>>> [sure_width(own) for own in ((3, 5), (1, -3), (2, 4), (4, 6), ())], [holes_at_last(own) for own in ((3, 5), (1, -3), (2, 4), (4, 6), ())]
([19, 1, 0, 10, 0], [8, 0, 0, 2, 0])
>>> stays_settled((3, 5), (4, 2)), stays_settled((3, 5), (2, 1)), unsettled_above((3, 5), (4, 2)), [is_unsettled_above((3, 5), (2, 1), own) for own in ((5, 1), (4, 1), (2, 3), (1, 9), [5, 1])], is_unsettled_above((3, 5), (2, 1), unsettled_above((3, 5), (2, 1)))
(True, False, None, [True, False, True, False, False], True)
>>> [settled_from(own) for own in ((3, 5), (2, -3), (1, 3), (3, 4, 5), (6, 4), ())]
[4, 2, 2, 2, 2, 1]
"""

POINT_8 = r"""
>>> comes_at_all((2, -3), 1), comes_at_all((3, 5), 7), comes_at_all((-3, -5), -8), comes_at_all((), 0), comes_at_all((6, 10, 15), 10 ** 40), comes_at_all((6, 10, 15), 29)
(True, False, True, True, True, False)
>>> [why_never((4, 6), number) for number in (7, -8, 2, 10)], why_never((-4, -6), 2), why_never((4, -6), -2), why_never((), 5)
(['step', 'sign', 'gap', None], 'sign', None, 'step')
>>> comes_from((2, -3), 1), comes_from((3, 5), 8), comes_from((3, 5), 7), comes_from((6, 10, 15), 30), comes_from((1, -1), 4000), comes_from((), 0)
(2, 1, None, 2, 4000, 1)
>>> shown_by((2, -3), 1), shown_by((6, 10, 15), 30), shown_by((3, 5), 7), is_shown_by((1, 1), 1, (0, 1)), is_shown_by((1, 2), 4, (2, 1)), is_shown_by((1, 2), 4, (0, 2)), is_shown_by((1, 2), 4, (4, 0))
((2, 1), (0, 0, 2), None, True, True, True, False)
>>> comes_with((3, 5), (1, 1), 0, 11), comes_with((3, 5), (1, 1), 1, 11), comes_with((3, 5), (1, 1), 1, 3), comes_with((2, -3), (1, 1), 1, -10 ** 30)
(2, None, 1, 333333333333333333333333333334)
>>> missed_for_ever((3, 5), -2, 10), missed_for_ever((2, -3), -9, 9), missed_for_ever((4, 6), 0, 10), lasting_holes((2, 3), (1, 1)), passing_holes((2, 3), (1, 1)), lasting_holes((2, -3), (1, 1)), passing_holes((2, -3), (1, 1))
([-2, -1, 1, 2, 4, 7], [], [2], [1], [4], [], [-2, 1])
>>> least_bounds_for((2, 3), 12, 9), least_bounds_for((2, 3), 12, 4), least_bounds_for((1, 2), 3, 9), least_bounds_for((3, 5), 7, 9), least_bounds_for((), 0, 1)
([(1, 4), (3, 2), (6, 1)], [(1, 4), (3, 2)], [(1, 1)], [], [()])
>>> comes_with((3, 5), (1, 1), 2, 0)
raises NoCounter(place=2)
"""

POINT_9 = r"""
>>> loops, one, other = (("i", 5), ("j", 3)), ((2, 0), 0), ((0, 3), 1)
>>> equation_of(loops, one, other), may_touch(loops, one, other), touch(loops, one, other), how_many_touchings(loops, one, other), is_touching(loops, one, other, touching(loops, one, other))
(((2, -3), (5, 3), 1), True, True, 48, True)
>>> is_touching(loops, one, other, ((2, 0), (4, 1))), is_touching(loops, one, other, ((2, 0), (4, 0))), is_touching(loops, one, other, ((2, 4), (0, 1))), cell_at(one, (3, 1)), how_many_rounds(loops)
(True, False, False, 6, 24)
>>> small = (("i", 1), ("j", 1))
>>> may_touch(small, one, other), touch(small, one, other), touching(small, one, other), how_many_touchings(small, one, other)
(True, False, None, 0)
>>> cells_of(loops, one), cells_of(loops, ((0, 0), 7)), [touches_itself(loops, place) for place in (one, ((4, 1), 7), ((3, 1), 0))], equation_of(loops, ((4, 1), 7), ((4, 1), 5)), how_many_touchings(loops, ((4, 1), 7), ((4, 1), 5))
([0, 2, 4, 6, 8, 10], [7], [True, False, True], ((4, 1, -4, -1), (5, 3, 5, 3), -2), 22)
>>> touch((), ((), 4), ((), 4)), touching((), ((), 4), ((), 4)), how_many_touchings((), ((), 4), ((), 4)), touch((), ((), 4), ((), 5)), touches_itself((), ((), 4)), cells_of((), ((), 4))
(True, ((), ()), 1, False, False, [4])
>>> is_loops(loops), is_loops(()), is_loops((("i", 5), ("i", 3))), is_loops((("i", 0),)), is_place(loops, one), is_place(loops, ((2,), 0)), is_place(loops, ((2, 0), True)), is_round(loops, (5, 3)), is_round(loops, (5, 4))
(True, True, False, False, True, False, False, True, False)
"""

POINT_10 = r"""
>>> line, pair = (("i", 4),), (("i", 1), ("j", 1))
>>> one, other = ((2,), 0), ((3,), 1)
>>> all_signs(line, one, other), touching_with(line, one, other, ">"), touch_with(line, one, other, "="), [lets_with(line, one, other, signs) for signs in "<=>"], distances(line, one, other), carried_by(line, one, other), signs_at_all(one, other)
(['>'], ((2,), (1,)), False, [False, False, True], [(-1,)], ('i',), ['>'])
>>> near, far = ((1, 1), 0), ((1, 1), 1)
>>> all_signs(pair, near, far), signs_at_all(near, far), distances(pair, near, far), carried_by(pair, near, far), all_signs((("i", 2), ("j", 2)), near, far), missed_signs(pair, near, far)
(['=>', '>='], ['<>', '=>', '><', '>='], [(-1, 0), (0, -1)], ('i', 'j'), ['<>', '=>', '><', '>='], [])
>>> missed_signs(pair, ((2, 0), 0), ((0, 3), 1)), lets_with(pair, ((2, 0), 0), ((0, 3), 1), "=="), lets_with(pair, ((2, 0), 0), ((0, 3), 1), "=>"), signs_at_all(((2,), 0), ((2,), 1)), signs_at_all(((1,), 0), ((2,), 0))
(['=='], True, False, [], ['=', '>'])
>>> lets_with((("i", 1),), ((2,), 0), ((3,), -2), "<"), lets_with((("i", 2),), ((2,), 0), ((3,), -2), "<"), lets_with((("i", 2),), ((2,), 0), ((3,), -4), "<"), touch_with((("i", 2),), ((2,), 0), ((3,), -4), "<"), distances((("i", 2),), ((2,), 0), ((3,), -4))
(False, False, True, True, [(1,)])
>>> is_touching_with(pair, near, far, "=>", ((1, 1), (1, 0))), is_touching_with(pair, near, far, ">=", ((1, 1), (1, 0))), is_touching_with(pair, near, far, "=>", ((1, 1), [1, 0])), signs_between((0, 3, 2), (1, 3, 0)), turned_signs("<=>"), is_signs(pair, "<="), is_signs(pair, "<"), is_signs(pair, "<x")
(True, False, False, '<=>', '>=<', True, False, False)
>>> all_signs((), ((), 4), ((), 4)), all_signs((), ((), 4), ((), 5)), distances((), ((), 4), ((), 4)), carried_by((), ((), 4), ((), 4)), signs_at_all(((), 4), ((), 4))
([''], [], [()], (), [''])
"""

POINT_11 = r"""
>>> loops, grid, turned = (("i", 3), ("j", 3)), (((1, 0), 0), ((0, 1), 0)), (((0, 1), 0), ((1, 0), 1))
>>> touch_all(loops, grid, turned), how_many_together(loops, grid, turned), shared_cells(loops, grid, turned)[:2], tests_each(loops, grid, turned), parted_by(loops, grid, turned), least_parting(loops, grid, turned), cells_at(turned, (2, 3))
(True, 12, [(0, 1), (0, 2)], (True, True), (), None, (3, 3))
>>> is_touching_all(loops, grid, turned, ((0, 1), (0, 0))), is_touching_all(loops, grid, turned, ((0, 1), (1, 0))), is_touching_all(loops, grid, turned, touching_all(loops, grid, turned))
(True, False, True)
>>> same, next_one = (((1, 0), 0), ((1, 0), 0)), (((0, 1), 0), ((0, 1), 1))
>>> touch_all(loops, same, next_one), touching_all(loops, same, next_one), tests_each(loops, same, next_one), parted_by(loops, same, next_one), least_parting(loops, same, next_one)
(False, None, (True, True), (), (0, 1))
>>> even, odd = (((0, 1), 0), ((2, 0), 0)), (((0, 1), 0), ((0, 2), 1))
>>> tests_each(loops, even, odd), parted_by(loops, even, odd), least_parting(loops, even, odd), shared_cells(loops, even, odd)
((True, False), (1,), (1,), [])
>>> is_flattened(loops, grid, turned, (((10, 1), 0), ((1, 10), 1))), is_flattened(loops, grid, turned, (((4, 1), 0), ((1, 4), 1))), is_flattened(loops, grid, turned, flattened(loops, grid, turned)), is_flattened(loops, same, next_one, flattened(loops, same, next_one))
(True, False, True, True)
>>> touch_all(loops, (), ()), how_many_together(loops, (), ()), shared_cells(loops, (), ()), tests_each(loops, (), ()), is_spot(loops, grid), is_spot(loops, ()), is_spot(loops, (((1,), 0),))
(True, 256, [()], (), True, True, False)
>>> touch_all(loops, grid, ())
raises Unfit()
"""

POINT_12 = r"""
>>> [says((3, 5), (5, 1), 1, test) for test in ("divisor", "range", "chain", "heaps", "settled", "walk")], [says((3, 5), (5, 1), number, "chain") for number in (0, 3, 19, 20)], says((3, 5), (4, 2), 10, "settled"), says((3, 5), (5, 1), 10, "settled")
([None, None, 'no', 'no', None, 'no'], ['yes', None, 'no', 'yes'], 'yes', None)
>>> verdict((3, 5), (5, 1), 10), verdict((3, 5), (4, 2), 10), verdict((3, 5), (4, 2), 18), verdict((2, 4), (9, 9), 3), verdict((1, 3), (2, 5), 18), verdict((1, -3), (2, 5), -9), first_telling((), (), 0)
(('walk', 'no'), ('settled', 'yes'), ('heaps', 'no'), ('divisor', 'no'), ('range', 'no'), ('chain', 'yes'), 'chain')
>>> how_many_told((3, 5), (5, 1)), how_many_told((3, 5), (4, 2)), how_many_told((2, 4), (1, 1)), numbers_told((3, 5), (5, 1), "heaps"), numbers_told((3, 5), (5, 1), "walk"), numbers_told((3, 5), (5, 1), "range")
((0, 0, 4, 6, 0, 11), (0, 0, 4, 6, 13, 0), (3, 0, 4, 0, 0, 0), [2, 4, 7, 13, 16, 18], [3, 5, 6, 8, 9, 10, 11, 12, 14, 15, 17], [])
>>> are_enough((3, 5), (4, 2), ("settled", "heaps")), are_enough((3, 5), (5, 1), ("chain", "heaps", "settled")), fewest_tests((3, 5), (4, 2)), fewest_tests((3, 5), (5, 1)), fewest_tests((1, 3), (2, 5)), fewest_tests((2, 4), (1, 1))
(True, False, ('heaps', 'settled'), None, ('chain',), ('chain', 'divisor'))
>>> false_alarms((1, 3), (1, 5), ("divisor", "range")), false_alarms((1, 3), (1, 5), ("chain",)), false_alarms((1, 3), (1, 5), ("walk",)), false_alarms((2, 4), (1, 1), ())
([2, 5, 8, 11, 14], [5, 8, 11], [], [1, 3, 5])
>>> says((1, 3), (1, 5), 2, "sort")
raises Unfit()
"""

POINT_13 = r"""
>>> book = Loopbook()
>>> book.add_loop("i", 1), book.add_loop("j", 1), book.add_place("p", (("i", 2),), 0), book.add_place("q", (("j", 3),), 1), book.add_place("r", (("i", 2), ("j", -1)), 5)
(None, None, None, None, None)
>>> book.loops(), book.places(), book.place_of("q"), len(book)
((('i', 1), ('j', 1)), (('p', (('i', 2),), 0), ('q', (('j', 3),), 1), ('r', (('i', 2), ('j', -1)), 5)), ((0, 3), 1), 5)
>>> book.touch("p", "q"), book.test("p", "q"), book.touch("q", "r"), book.touch("p", "p"), book.touch("r", "r"), book.touching_pairs(), book.alarms()
(False, True, True, True, False, (('q', 'r'),), (('p', 'q'),))
>>> book.groups(), book.most_apart(), book.touch_from("i", "p", "q"), book.touch_from("j", "p", "q"), book.touch_from("j", "p", "r"), book.bound_till("i")
((('p',), ('q', 'r')), ('p', 'q'), 2, None, 3, None)
>>> book.set_bound("i", 2), book.touching_pairs(), book.groups(), book.most_apart(), book.undo(), book.drop_place("q"), book.bound_till("i"), book.bound_till("j")
(None, (('p', 'q'), ('p', 'r'), ('q', 'r')), (('p', 'q', 'r'),), ('p',), None, None, 1, 2)
>>> mate = book.twin()
>>> mate == book, mate.undo(), mate == book, len(mate), len(book), book == Loopbook()
(True, None, False, 5, 6, False)
>>> book.add_loop("i", 3)
raises Known(name='i')
>>> book.drop_loop("j")
raises Used(name='j')
>>> book.add_place("s", (("i", 1), ("k", 2)), 0)
raises NoLoop(name='k')
>>> book.touch("p", "q")
raises NoPlace(name='q')
"""

POINT_14 = r"""
>>> terms_text((("x", 2), ("y", -1)), 7), terms_text((), 0), terms_text((), -7), terms_text((("i", 1),), 0), terms_text((("i", -1), ("j", 12)), -3)
('2x-y+7', '0', '-7', 'i', '-i+12j-3')
>>> terms_in("2x-y+7"), terms_in("0"), terms_in("-7"), terms_in("i"), terms_in("-i+12j-3")
(((('x', 2), ('y', -1)), 7), ((), 0), ((), -7), ((('i', 1),), 0), ((('i', -1), ('j', 12)), -3))
>>> equation_text(("x", "y", "z"), (2, 3, -1), 5), equation_text((), (), 5), equation_text(("b", "a"), (-1, 1), -4)
('2x+3y-z=5', '0=5', '-b+a=-4')
>>> equation_in("2x+3y-z=5"), equation_in("0=-5"), equation_in("-b+a=0")
((('x', 'y', 'z'), (2, 3, -1), 5), ((), (), -5), (('b', 'a'), (-1, 1), 0))
>>> loops_text((("i", 9), ("j", 4))), loops_text(()), loops_in("j:4, i:9"), loops_in("-")
('i:9, j:4', '-', (('j', 4), ('i', 9)), ())
>>> counters_text((0, 12, 3)), counters_text(()), counters_in("0 12 3"), counters_in("-")
('0 12 3', '-', (0, 12, 3), ())
>>> terms_in("y+2x")
raises BadText()
>>> terms_in("1x")
raises BadText()
>>> equation_in("x+x=2")
raises BadText()
>>> loops_in("i:0")
raises BadText()
"""

POINT_15 = r"""
>>> replies("loop i 1\nloop j 1\nplace p 2i\nplace q 3j+1\nplace r 2i-j+5\nloops\nplaces\npairs\nalarms\ngroups\napart")
['done', 'done', 'done', 'done', 'done', 'i:1, j:1', 'p 2i, q 3j+1, r 2i-j+5', 'q+r', 'p+q', 'p, q+r', 'p+q']
>>> replies("loop i 1\nplace p 2i\nplace q 3\ntouch p q\ntest p q\nfrom i p q\ntill i\ndrop loop i\nbound k 3\ntouch p p\ndrop place p\ndrop loop i\nplaces\ndeeds\nundo\nundo\nloops")
['done', 'done', 'done', 'no', 'no', '-', '20', 'refused Used', 'refused NoLoop', 'no', 'done', 'done', 'q 3', '5', 'done', 'done', 'i:1']
>>> replies("pairs\napart\nloops\nundo\ntouch a b\nplace a -7\nplace b -7\npairs\ntouch a a\nplace a 0"), replies("")
(['-', '-', '-', 'refused NothingDone', 'refused NoPlace', 'done', 'done', 'a+b', 'no', 'refused Known'], [])
>>> is_request("bound i 20"), is_request("bound i 21"), is_request("place p 21i"), is_request("place p -20i+9"), is_request("from i p p"), is_request("drop i"), is_request("loop  i 1")
(True, False, False, True, False, False, False)
>>> replies("loops\nlook\nloop i 0")
raises BadLine(number=1)
"""


class Examples(unittest.TestCase):
    def check(self, text, many):
        """Each row that is asked is one, with what is told behind it; those with none behind them give names values."""
        names = helpers.everything()
        rows = text.strip().split("\n")
        asked = [at for at, row in enumerate(rows) if row.startswith(">>> ")]
        self.assertEqual(len(asked), many)
        for at, following in zip(asked, asked[1:] + [len(rows)]):
            with self.subTest(asked=rows[at]):
                told = rows[at + 1:following]
                if told == []:
                    exec(rows[at][4:], names)
                else:
                    self.assertEqual([helpers.outcome(rows[at][4:], names)], told)

    def test_point_4(self):
        self.check(POINT_4, 6)

    def test_point_5(self):
        self.check(POINT_5, 8)

    def test_point_6(self):
        self.check(POINT_6, 8)

    def test_point_7(self):
        self.check(POINT_7, 6)

    def test_point_8(self):
        self.check(POINT_8, 8)

    def test_point_9(self):
        self.check(POINT_9, 8)

    def test_point_10(self):
        self.check(POINT_10, 9)

    def test_point_11(self):
        self.check(POINT_11, 10)

    def test_point_12(self):
        self.check(POINT_12, 6)

    def test_point_13(self):
        self.check(POINT_13, 12)

    def test_point_14(self):
        self.check(POINT_14, 10)

    def test_point_15(self):
        self.check(POINT_15, 5)

    def test_readme(self):
        path = os.path.join(os.path.dirname(os.path.dirname(os.path.abspath(__file__))), "README.md")
        told = doctest.testfile(path, module_relative=False)
        self.assertGreater(told.attempted, 0)
        self.assertEqual(told.failed, 0)


if __name__ == "__main__":
    unittest.main()
