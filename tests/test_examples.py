"""The examples of DOC.md, written as they stand there."""

import unittest

from tests.support import LaneTest, Outcome

EXAMPLES = r"""
# A5
>>> from straylanes.machines import agreeing, machine_error, rests_of, stretch_error, straying, word_error
>>> machine = (7, 11, 13)
>>> [machine_error(value) for value in (machine, (6, 6, 10 ** 6), (), [7], (7,) * 11, (7, 1), (True,), (7, 10 ** 6 + 1))]
[None, None, 'form', 'form', 'form', ('modulus', 1), ('modulus', 0), ('modulus', 1)]
>>> [word_error(machine, value) for value in ((3, None, 5), (None,) * 3, (3, 5), [3, 0, 0], (7, 0, 0), (0, -1, 13), (0, 0, True))]
[None, None, 'form', 'form', ('rest', 0), ('rest', 1), ('rest', 2)]
>>> [stretch_error(value) for value in ((0, 9), (-5, -5), (9, 0), (0,), [0, 9], (0, True), (0, 10 ** 60 + 1))]
[None, None, 'empty', 'form', 'form', 'form', 'form']

# A6
>>> rests_of(machine, 100), rests_of(machine, -1), rests_of((4, 6, 4), 10)
((2, 1, 9), (6, 10, 12), (2, 4, 2))
>>> agreeing(machine, (2, None, 4), 100), straying(machine, (2, None, 4), 100), straying(machine, (2, 1, 9), 100), agreeing(machine, (None,) * 3, 100)
((0,), (2,), (), ())

# A7
>>> from straylanes.wordtexts import machine_text, read_machine, read_word, word_text
>>> machine_text(machine), word_text((3, None, 5)), word_text((None,)), read_machine("6 6 10"), read_word(machine, "3 - 12")
('7 11 13', '3 - 5', '-', (6, 6, 10), (3, None, 12))
>>> read_machine("7  11")
raises BadText()
>>> read_machine("07 11")
raises BadText()
>>> read_word(machine, "3 - 13")
raises BadText()

# B2
>>> from straylanes.programs import hulls, inputs_error, program_error, result, run
>>> square = (("in", -3, 3), ("times", 0, 0), ("is", 2), ("less", 1, 2))
>>> [program_error(value) for value in (square, (("is", 5),), (), [("is", 5)], (("in", 0, 9), ("sum", 0, 1)), (("in", 9, 0),), (("is", True),))]
[None, None, 'form', 'form', ('step', 1), ('step', 0), ('step', 0)]
>>> program_error((("is", 10 ** 60), ("times", 0, 0), ("times", 1, 0)))
('great', 2)
>>> [inputs_error(square, value) for value in ((3,), (-3,), (4,), (), [3], (True,))], inputs_error((("is", 5),), ())
([None, None, ('input', 0), 'form', 'form', 'form'], None)

# B3
>>> run(square, (3,)), run(square, (-2,)), result(square, (0,)), hulls(square)
((3, 9, 2, 7), (-2, 4, 2, 2), -2, ((-3, 3), (-9, 9), (2, 2), (-11, 7)))
>>> run((("in", 0, 9), ("in", 5, 6), ("less", 1, 0)), (9, 5)), hulls((("in", 0, 9), ("in", 5, 6), ("less", 1, 0)))
((9, 5, -4), ((0, 9), (5, 6), (-4, 6)))

# B5
>>> from straylanes.runs import lane_words, strayed_words, strayers, strays_error
>>> machine = (7, 11, 13)
>>> lane_words(machine, square, (3,)), lane_words((4,), square, (-3,))
(((3, 3, 3), (2, 9, 9), (2, 2, 2), (0, 7, 7)), ((1,), (1,), (2,), (3,)))
>>> strayed_words(machine, square, (3,), ((1, 1, 5),)), strayed_words(machine, square, (3,), ((0, 0, 4), (0, 3, 6)))[2:]
(((3, 3, 3), (2, 5, 9), (2, 2, 2), (0, 3, 7)), ((2, 2, 2), (6, 7, 7)))
>>> [strays_error(machine, square, value) for value in ((), ((1, 1, 5),), [], ((0, 0, 7),), ((3, 0, 0),), ((0, 4, 0),), ((0, 1, 2), (0, 1, 3)), ((1, 0, 0), (0, 0, 0)))]
[None, None, 'form', ('stray', 0), ('stray', 0), ('stray', 0), ('order', 1), ('order', 1)]
>>> strayers(((0, 1, 2), (0, 3, 0), (2, 0, 1))), strayers(())
((0, 2), ())

# B6
>>> from straylanes.programtexts import program_text, read_program
>>> program_text(square), read_program("in 0 9; is 3; sum 0 1"), read_program("is -5")
('in -3 3; times 0 0; is 2; less 1 2', (('in', 0, 9), ('is', 3), ('sum', 0, 1)), (('is', -5),))
>>> read_program("in 0 9; sum 0 1")
raises BadText()
>>> read_program("is 5;is 6")
raises BadText()

# C2
>>> from straylanes.spans import clashes, numbers_of, same_lanes, span_of
>>> machine, mixed = (7, 11, 13), (4, 6, 9)
>>> span_of(machine, (0, 2)), span_of(machine, ()), span_of(mixed, (0, 1)), span_of(mixed, (0, 1, 2))
(91, 1, 12, 36)
>>> same_lanes(machine, 80, 3), same_lanes(machine, -5, -5), same_lanes(mixed, 1, 19), same_lanes(mixed, 0, 5)
((0, 1), (0, 1, 2), (1, 2), ())

# C3
>>> clashes(mixed, (1, 3, 0)), clashes(mixed, (1, 2, 0)), clashes(mixed, (1, None, 0)), clashes((5, 5), (1, 2))
((), ((0, 1), (1, 2)), (), ((0, 1),))

# C4
>>> numbers_of(mixed, (1, 3, 0), (0, 100)), numbers_of(machine, (3, None, 5), (-100, 100)), numbers_of(machine, (None, None, None), (2, 4))
((9, 36, 3), (-60, 91, 2), (2, 1, 3))
>>> numbers_of(machine, (3, None, 5), (32, 100)), numbers_of(machine, (6, 10, 12), (-1, 10 ** 60))[:2]
(None, (-1, 1001))
>>> numbers_of(mixed, (1, 2, 0), (0, 3))
raises Clash((0, 1))

# D2
>>> from straylanes.books import book_error, guard_error, is_let, lots_of
>>> machine, pairs = (7, 11, 13), ((0, 1), (2,))
>>> [book_error(machine, value) for value in (1, 3, 4, True, (), ((0,), (0, 1)), ((0,), (3,)), ((1,), (0,)), ((0,), (0,)), ([0],), ((1, 0),))]
[None, None, 'form', 'form', 'form', None, ('lot', 1), ('order', 1), ('order', 1), ('lot', 0), ('lot', 0)]
>>> [is_let(machine, 2, (0, 2)), is_let(machine, 1, (0, 2)), is_let(machine, pairs, (1,)), is_let(machine, pairs, (0, 2)), is_let(machine, 0, ())]
[True, False, True, False, True]
>>> lots_of(machine, 1), lots_of(machine, 0), lots_of(machine, ((0,), (0, 1), (2,))), lots_of(machine, ((),))
(((0,), (1,), (2,)), ((),), ((0, 1), (2,)), ((),))
>>> [guard_error(machine, value) for value in ((1, pairs, 0), (1, 1), (1, 9, 0), (0, ((0,), (3,)), [0]))]
[None, 'form', (1, 'form'), (1, ('lot', 1))]

# D3
>>> from straylanes.guards import bears, reach, strength, weakest
>>> [reach(machine, guard) for guard in ((0, 0, 0), (0, 1, 0), (1, 0, 0), (1, 1, 0), (0, 0, 1), (0, 1, 1), (1, 1, 1))]
[1001, 77, 7, 7, 77, 7, 1]
>>> reach(machine, (((0,), (1,)), 0, 0)), reach((4, 6, 9), (0, 1, 0)), reach((4, 6, 9), (0, 0, 0)), weakest(machine, (0, 1, 0))
(13, 12, 36, ((), (2,), ()))
>>> bears(machine, 7, (1, 1, 0)), bears(machine, 8, (1, 1, 0)), bears(machine, 77, (0, 1, 0))
(True, False, True)

# D4
>>> [strength(machine, many) for many in (1, 2, 7, 8, 1001, 1002)], strength((5, 5, 5, 5, 5), 5), strength((2, 3, 5, 7, 11), 6)
([3, 1, 1, 0, 0, -1], 2, 1)

# D5
>>> from straylanes.mixups import mix_up, mix_up_holds
>>> values = ((0, 7, (0, 7, 0)), (7, 0, (0, 7, 0)), (0, 7, (0, 0, 0)), (0, 7, (0, 7, 7)), (0, 7, (0, 7, None)), (0, 0, (0, 0, 0)), (0, 14, (0, 3, 0)), [0, 7, (0, 7, 0)])
>>> [mix_up_holds(machine, (0, 7), (1, 1, 0), value) for value in values]
[True, True, False, False, False, False, False, False]
>>> mix_up_holds(machine, (0, 7), (0, 1, 1), (0, 7, (0, 0, None))), mix_up(machine, (0, 6), (1, 1, 0))
(True, None)
>>> mix_up_holds(machine, (-4, 4), (1, 1, 0), mix_up(machine, (-4, 4), (1, 1, 0)))
True

# E2
>>> from straylanes.machines import rests_of
>>> from straylanes.tellings import candidates, mended, nearest, suspects, tell
>>> machine = (7, 11, 13)
>>> candidates(machine, (5, 9, 5), (0, 6), 1), tell(machine, (5, 9, 5), (0, 6), 1), mended(machine, (5, 9, 5), (0, 6), 1)
((5,), 5, (5, 5, 5))
>>> [candidates(machine, (2, 1, 9), (0, 60), book) for book in (1, ((1,),), ((2,),), 0)], mended(machine, (2, 1, 9), (0, 60), ((1,),))
([(9, 23), (9,), (23,), ()], (2, 9, 9))
>>> candidates(machine, (2, None, 9), (0, 200), 0), tell(machine, (2, None, 9), (0, 60), 0), candidates(machine, (6, 2, 4), (-50, 50), 1)
((9, 100, 191), 9, (-22, -9, 13))
>>> tell(machine, (6, 2, 4), (-50, 50), 1)
raises Unsure((-22, -9))
>>> tell(machine, (2, 1, 9), (0, 60), 0)
raises Strayed()
>>> candidates(machine, (None, None, None), (0, 200), 0)
raises TooMany(200)
>>> mended(machine, (None, None, None), (0, 200), 0)
raises Unsure((0, 1))
>>> great = (999983, 999979, 999961, 999959)
>>> far = rests_of(great, 123456789012)
>>> tell(great, far[:2] + (0,) + far[3:], (0, 999900000000), 1)
123456789012

# E3
>>> nearest(machine, (2, 1, 9), (0, 60)), nearest(machine, (2, 1, 9), (0, 200)), nearest(machine, (6, 2, 4), (-50, 50)), nearest(machine, (None, None, None), (3, 9))
((1, 9), (0, 100), (1, -22), (0, 3))
>>> suspects(machine, (2, 1, 9), (0, 60), 1), suspects(machine, (2, 1, 9), (0, 60), ((2,),)), suspects(machine, (6, 2, 4), (-50, 50), ((0,), (2,)))
(('agrees', 'open', 'open'), ('agrees', 'agrees', 'strays'), ('open', 'agrees', 'open'))
>>> suspects(machine, (2, None, 9), (0, 10 ** 60), 0), suspects(machine, (None, None, None), (-9, 9), 3)
(('agrees', 'silent', 'agrees'), ('silent', 'silent', 'silent'))
>>> suspects(machine, (2, 1, 9), (0, 60), 0)
raises Strayed()

# F2
>>> from straylanes.euclid import euclid_rows, euclid_tell
>>> euclid_rows(7, 5), euclid_rows(5, 0), euclid_rows(1, 0)
(((7, 0), (5, 1), (2, -1), (1, 3), (0, -7)), ((5, 0), (0, 1)), ((1, 0), (0, 1)))
>>> euclid_rows(1001, 185)
((1001, 0), (185, 1), (76, -5), (33, 11), (10, -27), (3, 92), (1, -303), (0, 1001))

# F4
>>> machine = (7, 11, 13)
>>> euclid_tell(machine, (3, 9, 3), (0, 4)), euclid_tell(machine, (3, 3, 9), (0, 4)), euclid_tell(machine, (3, 3, 9), (2, 4))
((3, (1,)), None, (3, (2,)))
>>> euclid_tell(machine, (3, None, 3), (0, 4)), euclid_tell(machine, (3, None, 9), (0, 4)), euclid_tell(machine, (0, 0, 0), (5, 5))
((3, ()), None, (5, (0, 1, 2)))
>>> euclid_tell((6, 4, 5), (1, None, 2), (0, 9))
(7, ())
>>> euclid_tell((6, 4, 5), (1, 1, 2), (0, 9))
raises Unfit()
>>> euclid_tell(machine, (None, None, None), (5, 5))
raises Unfit()
>>> five = (101, 103, 107, 109, 113)
>>> euclid_tell(five, (5, 9, 42, 42, 42), (0, 60)), euclid_tell(five, (5, 42, 9, 42, 42), (0, 60))
((42, (0, 1)), None)

# G2
>>> from straylanes.works import work_error, work_results, work_told
>>> plus, minus = (("in", 0, 3), ("in", 0, 3), ("sum", 0, 1)), (("in", 0, 5), ("is", 1), ("less", 0, 1))
>>> work = ((plus, (("value", 2), ("value", 3)), (0, 6)), (minus, (("stage", 0),), (-1, 5)))
>>> work_error(work), work_results(work)
(None, (5, 4))
>>> work_error(()), work_error(list(work)), work_error(work[1:]), work_error(((plus, (("value", 2),), (0, 6)),)), work_error(((plus, (("value", 2), ("value", True)), (0, 6)),))
('form', 'form', ('stage', 0), ('stage', 0), ('stage', 0))
>>> work_error(((plus, (("value", 2), ("value", 4)), (0, 6)),)), work_error(((plus, (("value", 2), ("value", 3)), (0, 4)),)), work_error((work[0], (minus, (("stage", 0),), (5, 9))))
(('feed', 0), ('out', 0), ('out', 1))

# G3
>>> machine = (7, 11, 13)
>>> work_told(machine, work, (((1, 2, 0),), ((2, 0, 9),)), 1), work_told(machine, work, ((), ()), 0), work_told(machine, work, (((0, 2, 0), (1, 2, 0)), ()), 1)
((5, 4), (5, 4), (0, -1))
>>> work_told(machine, work, (((0, 2, 0), (1, 2, 1)), ()), 1)
raises Strayed()
>>> work_told(machine, work, (((0, 2, 6), (1, 2, 6)), ()), 1)
raises Unfit()
>>> work_told(machine, work, (((1, 2, 0),), ()), 2)
raises Unsure((0, 5))

# G5
>>> from straylanes.paces import fewest, stops, stops_hold
>>> chain = (5, 50, 7, 3, 2000, 6, 1)
>>> stops(machine, chain, 2), fewest(machine, chain, 2), fewest(machine, (7,) * 9, 3), fewest(machine, (1, 1), 1)
((0, 6), 2, 3, 1)
>>> [stops_hold(machine, chain, 2, value) for value in ((0, 6), (0, 2, 6), (0, 2, 3, 6), (6,), (0, 2), (0, 1, 6), [0, 6], (False, 6))]
[True, True, True, False, False, False, False, False]
>>> stops(machine, (5, 50), 9)
raises NoPlan()

# H2
>>> from straylanes.results import mixed_runs, mixed_runs_hold, results, told_for_all
>>> square, six = (("in", 0, 2), ("times", 0, 0)), (("in", 0, 1), ("is", 6), ("times", 0, 1))
>>> results(square), results(six), results((("is", 5),)), results((("in", -2, 2), ("times", 0, 0)))
((0, 1, 4), (0, 6), (5,), (0, 1, 4))
>>> told_for_all((7, 11, 13), square, 1), told_for_all((7, 11, 13), square, 2), told_for_all((2, 3, 5), square, 1), told_for_all((4, 5, 7), six, 1)
(True, False, False, True)
>>> results((("in", 0, 2000),))
raises TooMany(2000)

# H3
>>> paper = (((0,), ((1, 1, 1),)), ((2,), ((2, 1, 0),)))
>>> mixed_runs((7, 11, 13), square, 1), mixed_runs_hold((2, 3, 5), square, 1, mixed_runs((2, 3, 5), square, 1)), mixed_runs_hold((2, 3, 5), square, 1, paper)
(None, True, True)
>>> mixed_runs_hold((2, 3, 5), square, 0, paper), mixed_runs_hold((2, 3, 5), square, ((1,),), paper), mixed_runs_hold((2, 3, 5), square, 1, (paper[0], ((2,), ()))), mixed_runs_hold((2, 3, 5), square, 1, (paper[0], paper[0]))
(False, False, False, False)

# H4
>>> from straylanes.units import faces, told_from, unit_runs
>>> even = (("in", 0, 1), ("is", 0), ("is", 2), ("times", 1, 2), ("sum", 0, 3))
>>> faces((4, 6), even, (0,), 0, (1,)), faces((4, 6), even, (1,), 0, (1,)), faces((4, 6), even, (0,), 1, (1,)), faces((4, 6), even, (1,), 1, ())
((0, 2), (1, 3), (0, 2, 4), (1,))
>>> faces((2, 3, 5), square, (0,), 2, (0,)), faces((2, 3, 5), square, (0,), 1, (0,)), faces((2, 3, 5), square, (0,), 1, (0, 1))
((0, 1, 4), (0, 1), (0, 1, 2))
>>> faces((7, 11, 13), even, (0,), 2, (0, 1, 2, 3))
raises TooMany(3000)

# H5
>>> told_for_all((4, 6), even, 2), told_from((4, 6), even, 2, (1,)), told_from((4, 6), even, 1, (3,)), told_from((4, 6), even, 2, ())
(False, True, False, True)
>>> unit_runs((4, 6), even, 2, (1,)), mixed_runs_hold((4, 6), even, 1, (((0,), ((0, 3, 1),)), ((1,), ((1, 3, 5),))))
(None, True)
>>> mixed_runs_hold((4, 6), even, 1, unit_runs((4, 6), even, 1, (3,)))
True

# I2
>>> from straylanes.ledgers import fitting_lots, ledger_error, sure_numbers, sure_sound, sure_strayers
>>> machine = (7, 11, 13)
>>> first, second, third = ((6, 4, 7), (0, 60)), ((3, 5, 6), (0, 60)), ((3, 0, 10), (0, 60))
>>> [ledger_error(machine, value) for value in ((first, second), (), [first], (first,) * 9, (first, third[0]), (((6, 4), (0, 60)),), (first, ((6, 4, 7), (60, 0))))]
[None, 'form', 'form', 'form', ('run', 1), ('run', 0), ('run', 1)]

# I3
>>> fitting_lots(machine, (first,), 1), fitting_lots(machine, (first, second), 1), fitting_lots(machine, (first, second, third), 1)
(((0,), (1,), (2,)), ((1,), (2,)), ((1,),))
>>> fitting_lots(machine, (first,), 0), fitting_lots(machine, (third, first), ((0, 1), (2,))), fitting_lots(machine, (((None, None, None), (5, 9)),), 0)
((), ((0, 1),), ((),))

# I4
>>> sure_numbers(machine, (first, second), 1), sure_numbers(machine, (second, third, first), 1)
((None, None), (45, 10, 20))
>>> sure_strayers(machine, (first, second), 1), sure_sound(machine, (first, second), 1)
((), (0,))
>>> sure_strayers(machine, (first, second, third), 1), sure_sound(machine, (first, second, third), 1)
((1,), (0, 2))
>>> plain = ((6, 9, 7), (0, 60))
>>> sure_numbers(machine, (plain,), 1), sure_strayers(machine, (plain,), 1), sure_sound(machine, (plain,), 1), sure_sound(machine, (plain, second), 1)
((20,), (), (0, 1, 2), (0,))
>>> sure_numbers(machine, (((6, None, 7), (0, 200)),), 0), sure_numbers(machine, (((6, None, 7), (0, 90)),), 0)
((None,), (20,))
>>> sure_numbers(machine, (first,), 0)
raises NoLot()

# J2
>>> from straylanes.stocks import cheapest, least_more, outdoes, stock_error
>>> stock = ((7, 2), (8, 1), (9, 3), (11, 4), (12, 1))
>>> [stock_error(value) for value in (stock, ((2, 0),), (), list(stock), stock * 2, ((7, 2), (1, 2)), ((7, 2), (8, 1000)), ((7, True),), ((7, 2, 3),))]
[None, None, 'form', 'form', 'form', ('item', 1), ('item', 1), ('item', 0), ('item', 0)]

# J3
>>> cheapest(stock, 50, 1), cheapest(stock, 70, 1), cheapest(stock, 73, 1)
((10, (0, 1, 2, 3)), (11, (0, 1, 2, 3, 4)), None)
>>> cheapest(stock, 50, 0) in ((3, (0, 1)), (3, (0, 4))), cheapest(stock, 1, 2), cheapest(stock, 8, 2), cheapest(stock, 7, 2)
(True, (2, (1, 4)), None, (11, (0, 1, 2, 3, 4)))

# J4
>>> outdoes((7, 11, 13), (7, 8, 9)), outdoes((7, 8, 9), (7, 11, 13)), outdoes((2, 3, 5, 7), (6, 35)), outdoes((7,), (2, 2)), outdoes((7,), (2, 2, 2))
(True, False, True, True, False)
>>> outdoes((5, 6, 7), (4, 4, 4, 300)), outdoes((4, 4, 4, 300), (5, 6, 7)), outdoes((6, 6), (6, 6)), outdoes((6, 6), (6,)), outdoes((6,), (6, 6))
(False, False, True, True, True)

# J5
>>> least_more((7, 8, 9), 50, 1), least_more((7, 8, 9), 57, 1), least_more((7, 8, 9), 1001, 0)
(11, None, 5)
>>> least_more((7,), 200, 0), least_more((7,), 1400, 0), least_more((7,), 1401, 0), least_more((7, 11, 13), 7, 1), least_more((2,), 1, 2), least_more((7,) * 10, 1, 0)
(29, 200, None, 2, 2, None)

# K5
>>> from straylanes.benches import Bench
>>> b, three = Bench(), (("in", 0, 6), ("is", 3), ("times", 0, 1))
>>> [b.keep("rail", (7, 11, 13)), b.keep("three", three), len(b), list(b), b["rail"], b.version]
[1, 2, 2, ['rail', 'three'], (7, 11, 13), 2]
>>> [b.reach_of("rail", (1, 1, 0)), b.reach_of("rail", (0, 1, 0)), b.told("rail", "three", 1), b.reach_of("rail", (1, 1, 0)), b.made]
[7, 77, True, 7, 3]
>>> [b.lane_put("rail", 5), b.reach_of("rail", (1, 1, 0)), b.undo(), b.reach_of("rail", (1, 1, 0)), b.made]
[3, 35, 2, 7, 4]
>>> [b.step_put("three", ("sum", 2, 2)), b.told("rail", "three", 1), b.step_taken("three"), b["three"] == three, b.made]
[3, True, 4, True, 5]
>>> b.lane_put("rail", 1)
raises BadMachine(('modulus', 3))
>>> b.step_put("three", ("sum", 0, 3))
raises BadProgram(('step', 3))
>>> b.told("three", "rail", 1)
raises Unfit()
>>> b.reach_of("rail", (1, 1, 4))
raises BadBook((2, 'form'))
>>> b.batch((("drop", "rail"), ("lane_put", "rail", 5)))
raises Rejected(1)

# K6
>>> from straylanes.logs import bench_behind, log_text, read_log
>>> log_text(b.log[1:]), log_text((("batch", ()),))
('(keep,three,((in,0,6),(is,3),(times,0,1)))\n(step_put,three,(sum,2,2))\n(step_taken,three)\n', '(batch,())\n')
>>> read_log(log_text(b.log)) == b.log, bench_behind(b.log) == b, read_log("(drop,rail)\n(drop,r")
(True, True, (('drop', 'rail'),))
>>> read_log("(drop,rail)\n(drop,07)\n")
raises BadLog(1)
>>> bench_behind((("drop", "rail"),))
raises BadLog(0)

# K7
>>> from straylanes.shells import Shell
>>> s = Shell()
>>> [s.say("machine rail 7 11 13"), s.say("program three in 0 6; is 3; times 0 1"), s.say("names"), s.say("show three"), s.say("run three 4")]
['version 1', 'version 2', 'rail three', 'program in 0 6; is 3; times 0 1', '12']
>>> [s.say("reach rail 1 1 0"), s.say("told rail three 1"), s.say("tell rail 0 6 1 3 5 3"), s.say("tell rail 0 100 0 3 5 3"), s.say("made")]
['7', 'yes', '3', 'error Strayed', '2']
>>> [s.say("step three sum 2 2"), s.say("unstep three"), s.say("lane rail 1"), s.say("lane three 5"), s.say("undo"), s.say("redo"), s.say("redo")]
['version 3', 'version 4', 'error BadMachine', 'error Unfit', 'version 3', 'version 4', 'error NothingToRedo']
>>> [s.say("machine rail 7 x"), s.say("machine rail"), s.say("lane rail 05"), s.say("show four"), s.say("run three 7"), s.say("drop "), s.say(7)]
['error BadText', 'what', 'what', 'error NoName', 'error Unfit', 'what', 'what']
"""


class ExamplesTest(LaneTest):
    def test_each_comes_to_what_is_told(self):
        names, checked = {}, 0
        rows = [row for row in EXAMPLES.splitlines() if row and not row.startswith("#")] + [">>> "]
        for row, told in zip(rows, rows[1:]):
            source = row.removeprefix(">>> ")
            if source == row:
                continue
            if told.startswith(">>> "):
                exec(source, names)
                continue
            with self.subTest(source):
                self.assertEqual(Outcome(eval, (source, names), {}).written(), told)
                checked += 1
        self.assertEqual(checked, sum(not row.startswith(">>> ") for row in rows))


if __name__ == "__main__":
    unittest.main()
