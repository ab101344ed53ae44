"""What listed and trace tell, and what they and run refuse."""

import unittest

from piecelay.errors import Fault, NoArgs, NoCode, NoSize, NoSteps
from piecelay.machine import listed, run, trace
from tests.odd import ODD

ARGS = (4, 3, 2, 9)
CODE = [1, 1, 0]
NO_CODES = ODD + [(1, 1, 0), [0] * 1001, [100], [-1], [1, True, 0], [False], [1, None, 0]]

ALL = [
    (0, "end", ()), (1, "put", (5,)), (3, "far", (6, 7)), (6, "load", (8,)), (8, "add", ()), (9, "sub", ()),
    (10, "mul", ()), (11, "less", ()), (12, "skip", (9,)), (14, "jump", (10, 11)), (17, "zero", (12,)),
    (19, "none", (13, 14)), (22, "more", (15,)), (24, "twice", ()), (25, "about", ()), (26, "call", (16, 17)),
    (29, "back", ()),
]
ALL_CELLS = [0, 1, 5, 2, 6, 7, 3, 8, 4, 5, 6, 7, 8, 9, 9, 10, 11, 10, 12, 11, 13, 14, 12, 15, 13, 14, 15, 16, 17, 16]


class ListedTest(unittest.TestCase):
    def assertFault(self, place, code):
        with self.assertRaises(Fault) as caught:
            listed(code)
        self.assertEqual(caught.exception.place, place)

    def test_each_of_the_instructions(self):
        self.assertEqual(listed(ALL_CELLS), ALL)

    def test_from_the_first_cell_on_whatever_jumps_there_are(self):
        self.assertEqual(listed([9, 99, 99, 8, 1, 16, 0, 0]),
                         [(0, "jump", (99, 99)), (3, "skip", (1,)), (5, "back", ()), (6, "end", ()), (7, "end", ())])

    def test_what_the_cells_are_is_not_looked_at(self):
        self.assertEqual(listed([8, 99, 10, 10, 3, 4, 1, 17]),
                         [(0, "skip", (99,)), (2, "zero", (10,)), (4, "load", (4,)), (6, "put", (17,))])

    def test_a_cell_that_tells_none(self):
        for cell in [17, 99]:
            self.assertFault(0, [cell])
            self.assertFault(3, [1, 17, 0, cell, 0])

    def test_cells_cut_off(self):
        for cell in [1, 2, 3, 8, 9, 10, 11, 12, 15]:
            with self.subTest(cell):
                self.assertFault(1, [4, cell])
        for cell in [2, 9, 11, 15]:
            with self.subTest(cell):
                self.assertFault(1, [4, cell, 0])
                self.assertEqual(len(listed([4, cell, 0, 0])), 2)

    def test_the_longest_code(self):
        self.assertEqual(listed([4] * 1000), [(place, "add", ()) for place in range(1000)])

    def test_the_list_is_a_new_one(self):
        code = [1, 1, 0]
        listed(code).clear()
        self.assertEqual(listed(code), [(0, "put", (1,)), (2, "end", ())])
        self.assertEqual(code, [1, 1, 0])

    def test_no_code(self):
        for at, thing in enumerate(NO_CODES):
            with self.subTest(at):
                with self.assertRaises(NoCode):
                    listed(thing)


class TraceTest(unittest.TestCase):
    def told(self, code, steps=1000):
        return trace(code, ARGS, size=10, steps=steps)

    def test_ahead_of_each_step_the_end_too(self):
        self.assertEqual(self.told([1, 7, 3, 2, 14, 5, 0]),
                         [(0, ()), (2, (7,)), (4, (7, 2)), (5, (2, 7)), (6, (5,))])

    def test_calls_and_ways(self):
        self.assertEqual(self.told([1, 5, 15, 9, 0, 15, 9, 0, 0, 12, 1, 16]),
                         [(0, ()), (2, (5,)), (9, (5,)), (11, (6,)), (5, (6,)), (9, (6,)), (11, (7,)), (8, (7,))])
        self.assertEqual(self.told([1, 3, 1, 0, 10, 2, 99, 99, 8, 1, 99, 0]),
                         [(0, ()), (2, (3,)), (4, (3, 0)), (8, (3,)), (11, (3,))])

    def test_a_fault_ends_it(self):
        self.assertEqual(self.told([1, 7]), [(0, ())])
        self.assertEqual(self.told([1, 7, 12, 1, 4, 0]), [(0, ()), (2, (7,))])
        self.assertEqual(self.told([16]), [])
        self.assertEqual(self.told([1, 7, 1, 8, 0]), [(0, ()), (2, (7,))])
        self.assertEqual(self.told([1, 7, 8, 9]), [(0, ()), (2, (7,))])

    def test_the_last_step_ends_it(self):
        code = [1, 7, 12, 1, 0]
        self.assertEqual(self.told(code, steps=1), [(0, ())])
        self.assertEqual(self.told(code, steps=2), [(0, ()), (2, (7,))])
        self.assertEqual(self.told(code, steps=3), [(0, ()), (2, (7,)), (4, (8,))])
        self.assertEqual(self.told(code, steps=4), [(0, ()), (2, (7,)), (4, (8,))])

    def test_1000_steps_where_none_are_told(self):
        code = [1, 5] + [15, 18, 0] * 5 + [0] + [12, 0] * 247 + [16]
        self.assertEqual(len(trace(code, ARGS, size=10)), 1000)
        self.assertEqual(len(trace(code, ARGS, size=10, steps=1100)), 1100)
        self.assertEqual(len(trace(code, ARGS, size=10, steps=2000)), 1247)

    def test_nothing_is_told_behind_the_end(self):
        self.assertEqual(self.told([1, 7, 0, 1, 7, 0]), [(0, ()), (2, (7,))])

    def test_the_list_is_a_new_one(self):
        code = [1, 7, 0]
        self.told(code).clear()
        self.assertEqual(self.told(code), [(0, ()), (2, (7,))])
        self.assertEqual(code, [1, 7, 0])


class RefusalsTest(unittest.TestCase):
    def assertRefused(self, error, code=CODE, args=ARGS, size=10, steps=1000):
        for call in [run, trace]:
            with self.assertRaises(error):
                call(code, args, size=size, steps=steps)

    def test_no_code(self):
        for at, thing in enumerate(NO_CODES):
            with self.subTest(at):
                self.assertRefused(NoCode, code=thing)

    def test_no_size(self):
        for size in [1, 0, -2, 10001, 10**30, True, False, None, "10", [10], (10,), object()]:
            with self.subTest(size):
                self.assertRefused(NoSize, args=(0, 0, 0, 0), size=size)

    def test_sizes_at_their_bounds(self):
        self.assertEqual(run([3, 0, 0], (1, 0, 1, 0), size=2), 1)
        self.assertEqual(run([3, 0, 0], (9999, 0, 1, 0), size=10000), 9999)

    def test_no_args(self):
        for args in [(), (0, 0, 0), (0, 0, 0, 0, 0), [0, 0, 0, 0], None, "0000", range(4), (10, 0, 0, 0), (0, 0, 0, -1),
                     (0, True, 0, 0), (0, 0, False, 0), (0, 0, None, 0), (0, 0, 0, "0"), ((), (), (), ())]:
            with self.subTest(args):
                self.assertRefused(NoArgs, args=args)

    def test_no_steps(self):
        for steps in [0, -1, 100001, 10**30, True, False, None, "5", [5], (5,), object()]:
            with self.subTest(steps):
                self.assertRefused(NoSteps, steps=steps)

    def test_steps_at_their_bounds(self):
        self.assertEqual(trace(CODE, ARGS, size=10, steps=1), [(0, ())])
        self.assertEqual(run(CODE, ARGS, size=10, steps=100000), 1)
        self.assertEqual(trace(CODE, ARGS, size=10, steps=100000), [(0, ()), (2, (1,))])

    def test_which_comes_first(self):
        self.assertRefused(NoCode, code=None, args=None, size=None, steps=None)
        self.assertRefused(NoCode, code=[], steps=0)
        self.assertRefused(NoCode, code=[], args=())
        self.assertRefused(NoCode, code=[], size=1)
        self.assertRefused(NoSize, args=None, size=1, steps=0)
        self.assertRefused(NoSize, size=1, steps=0)
        self.assertRefused(NoSize, args=(), size=1)
        self.assertRefused(NoArgs, args=None, steps=0)
        self.assertRefused(NoSteps, code=[99], steps=0)
        self.assertRefused(NoArgs, code=[99], args=())
