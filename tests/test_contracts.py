import itertools
import unittest

from piecelay.errors import NoPiece, NoSize
from piecelay.machine import trace
from piecelay.pieces import BASIC, failing
from piecelay.trees import worth
from tests.odd import ODD

H0, H1 = ("hole", 0), ("hole", 1)
S0, S1 = ("slot", 0), ("slot", 1)
NONE = (0, 0, 0, 0)


def gap(number, most=9999):
    return ("gap", number, most)


def told(pattern, cells, size):
    return failing(("piece", pattern, cells), size=size)


def leaves(pattern, kind):
    if pattern[0] == kind:
        return [pattern]
    return [leaf for part in pattern[1:] if isinstance(part, tuple) for leaf in leaves(part, kind)]


def all_trials(pattern, size):
    nums = [[num for num in [0, 1, 2, 99, 100, 9999] if num <= leaf[2]] for leaf in leaves(pattern, "gap")]
    trials = [
        trial
        for trial in itertools.product(
            itertools.product(range(size), repeat=len(leaves(pattern, "hole"))),
            itertools.product(*nums),
            itertools.product(range(4), repeat=len(leaves(pattern, "slot"))),
            itertools.product(range(size), repeat=4),
        )
        if all(trial[3][k] == 0 or k in trial[2] for k in range(4))
    ]
    return sorted(trials)


def filled(pattern, trial):
    holes, nums, ks, _ = trial
    if pattern[0] == "hole":
        return ("num", holes[pattern[1]])
    if pattern[0] == "gap":
        return ("num", nums[pattern[1]])
    if pattern[0] == "slot":
        return ("arg", ks[pattern[1]])
    return tuple(filled(part, trial) if isinstance(part, tuple) else part for part in pattern)


def kept(pattern, cells, trial, size):
    """Asks trace for the pile behind the piece, by a skip of 0 that is laid there."""
    holes, nums, ks, args = trial
    numbers = {"low": [num % 100 for num in nums], "high": [num // 100 for num in nums], "arg": ks}
    code = [1, 1] + [cell for hole in holes for cell in [1, hole]]
    code += [cell if isinstance(cell, int) else numbers[cell[0]][cell[1]] for cell in cells]
    place = len(code)
    rows = trace(code + [8, 0], args, size=size)
    return rows[-1] == (place, (1, worth(filled(pattern, trial), args, size=size)))


SOME = [
    (("sub", H0, H1), (14, 5)),
    (("sub", H0, H1), (14, 5, 1, 0, 14, 5)),
    (("sub", ("num", 0), H0), (1, 0, 14, 5)),
    (("less", H0, gap(0, 99)), (1, ("low", 0), 7)),
    (("less", gap(0), H0), (2, ("low", 0), ("high", 0), 14, 7)),
    (("less", gap(0), H0), (1, ("low", 0), 14, 7)),
    (("add", ("mul", H0, gap(0, 2)), gap(1, 100)), (1, ("low", 0), 6, 12, ("low", 1))),
    (("add", ("mul", H0, gap(0)), gap(1, 99)), (2, ("low", 0), ("high", 0), 6, 12, ("low", 1))),
    (("add", S0, S1), (3, ("arg", 0), 13, 4)),
    (("sub", S0, S1), (3, ("arg", 0), 3, ("arg", 1), 5)),
    (("sub", S0, gap(0, 5)), (3, ("arg", 0), 1, ("low", 0), 14, 5)),
    (("mul", ("add", H0, S0), H1), (14, 3, ("arg", 0), 4, 6)),
    (("mul", ("add", H0, S0), H1), (14, 3, 3, 4, 6)),
    (("add", ("num", 9999), H0), (12, 99)),
    (("mul", H0, ("num", 2)), (13, 4)),
    (("mul", H0, ("num", 100)), (1, 0, 6)),
]


class FailingTest(unittest.TestCase):
    def test_basic_keeps_its_contracts(self):
        for piece in BASIC:
            for size in range(2, 6):
                with self.subTest((piece[0], size)):
                    self.assertIsNone(failing(piece, size=size))

    def test_against_all_trials_in_order(self):
        for pattern, cells in SOME:
            for size in range(2, 6):
                with self.subTest((pattern, cells, size)):
                    trials = [trial for trial in all_trials(pattern, size) if not kept(pattern, cells, trial, size)]
                    self.assertEqual(told(pattern, cells, size), trials[0] if trials else None)

    def test_sizes_differ(self):
        pattern, cells = ("add", H0, H1), (5,)
        self.assertIsNone(told(pattern, cells, 2))
        for size in [3, 4, 5]:
            self.assertEqual(told(pattern, cells, size), ((0, 1), (), (), NONE))

    def test_the_last_number_of_the_size_is_tried(self):
        pattern, cells = ("less", H0, ("num", 4)), (1, 0, 6, 12, 1)
        self.assertEqual(told(pattern, cells, 5), ((4,), (), (), NONE))

    def test_the_first_hole_lies_beneath_the_second(self):
        self.assertIsNone(told(("sub", H0, H1), (5,), 5))
        self.assertEqual(told(("sub", H0, H1), (14, 5), 5), ((0, 1), (), (), NONE))

    def test_beneath_lies_1(self):
        self.assertIsNone(told(("num", 1), (13,), 5))
        self.assertEqual(told(("num", 2), (13,), 5), ((), (), (), NONE))

    def test_the_number_beneath_must_be_as_it_was(self):
        self.assertEqual(told(("num", 0), (12, 1, 1, 0), 2), ((), (), (), NONE))
        self.assertIsNone(told(("num", 0), (12, 2, 1, 0), 2))
        self.assertEqual(told(("num", 0), (12, 2, 1, 0), 3), ((), (), (), NONE))
        self.assertIsNone(told(("sub", H0, ("num", 0)), (14, 14), 3))
        self.assertEqual(told(("sub", H0, ("num", 0)), (14,), 3), ((0,), (), (), NONE))

    def test_just_one_number_in_the_place_of_the_holes(self):
        self.assertEqual(told(("add", H0, ("num", 0)), (13,), 2), ((0,), (), (), NONE))
        self.assertEqual(told(("add", H0, H1), (12, 0), 2), ((0, 0), (), (), NONE))
        self.assertEqual(told(("mul", H0, H1), (6, 4), 2), ((0, 0), (), (), NONE))

    def test_a_fault(self):
        self.assertEqual(told(("num", 0), (4, 1, 0), 2), ((), (), (), NONE))
        self.assertEqual(told(("num", 0), (3, 4), 2), ((), (), (), NONE))
        self.assertEqual(told(("num", 0), (4, 4, 4), 2), ((), (), (), NONE))
        self.assertIsNone(told(("num", 0), (3, 3), 5))

    def test_a_fault_for_some_of_the_nums(self):
        pattern = ("mul", ("num", 0), gap(0, 99))
        self.assertEqual(told(pattern, (3, ("low", 0)), 5), ((), (99,), (), NONE))
        self.assertIsNone(told(("mul", ("num", 0), gap(0, 98)), (3, ("low", 0)), 5))

    def test_the_nums_of_gaps_as_far_as_they_may(self):
        self.assertIsNone(told(gap(0, 0), (1, 0), 5))
        self.assertEqual(told(gap(0, 1), (1, 0), 5), ((), (1,), (), NONE))
        self.assertIsNone(told(gap(0, 1), (1, ("low", 0), 13, 6), 5))
        self.assertEqual(told(gap(0, 2), (1, ("low", 0), 13, 6), 5), ((), (2,), (), NONE))
        small = (1, ("low", 0), 13, 1, 3, 7, 6)
        self.assertIsNone(told(gap(0, 98), small, 5))
        self.assertEqual(told(gap(0, 99), small, 5), ((), (99,), (), NONE))
        self.assertIsNone(told(gap(0, 99), (1, ("low", 0)), 3))
        self.assertEqual(told(gap(0, 100), (1, ("low", 0)), 3), ((), (100,), (), NONE))
        nearly = (1, ("low", 0), 1, 1, 1, ("high", 0), 7, 4)
        self.assertIsNone(told(gap(0, 9998), nearly, 4))
        self.assertEqual(told(gap(0, 9999), nearly, 4), ((), (9999,), (), NONE))

    def test_gaps_each_with_their_own_most(self):
        self.assertIsNone(told(("add", gap(0, 99), gap(1, 0)), (1, ("low", 0)), 5))
        self.assertEqual(told(("add", gap(0, 0), gap(1, 99)), (1, ("low", 0)), 5), ((), (0, 1), (), NONE))
        self.assertIsNone(told(("add", gap(0, 0), gap(1, 99)), (1, ("low", 1)), 5))

    def test_slots_stand_for_each_arg(self):
        self.assertEqual(told(S0, (3, 0), 3), ((), (), (1,), (0, 1, 0, 0)))
        self.assertEqual(told(S0, (3, 3), 3), ((), (), (0,), (1, 0, 0, 0)))
        self.assertEqual(told(("sub", S0, S1), (3, ("arg", 1), 3, ("arg", 0), 5), 3), ((), (), (0, 1), (0, 1, 0, 0)))
        self.assertIsNone(told(("sub", S0, S1), (3, ("arg", 0), 3, ("arg", 1), 5), 5))

    def test_args_that_no_slot_stands_for_are_0(self):
        self.assertIsNone(told(("mul", ("num", 0), H0), (3, 2, 6), 5))
        self.assertIsNone(told(("num", 0), (3, 0, 3, 1, 4, 3, 2, 4, 3, 3, 4), 5))

    def test_the_order_of_trials(self):
        self.assertEqual(told(("add", H0, gap(0)), (1, 0, 6), 3), ((0,), (1,), (), NONE))
        self.assertEqual(told(("add", H0, S0), (1, 0, 6), 3), ((0,), (), (0,), (1, 0, 0, 0)))
        self.assertEqual(told(("add", gap(0), S0), (1, 0), 3), ((), (0,), (0,), (1, 0, 0, 0)))
        self.assertEqual(told(S0, (1, 0), 3), ((), (), (0,), (1, 0, 0, 0)))
        self.assertEqual(told(("mul", S0, S1), (1, 0), 3), ((), (), (0, 0), (1, 0, 0, 0)))

    def test_no_piece(self):
        for at, thing in enumerate(ODD + [("piece", H0, (4,)), ("pick", gap(0), (1, 0))]):
            with self.subTest(at):
                with self.assertRaises(NoPiece):
                    failing(thing, size=3)

    def test_no_size(self):
        for size in [1, 0, -3, 6, 10, 10000, True, False, None, "3", (3,), [3], object()]:
            with self.subTest(size):
                with self.assertRaises(NoSize):
                    failing(BASIC[0], size=size)

    def test_which_comes_first(self):
        with self.assertRaises(NoPiece):
            failing(None, size=None)
        with self.assertRaises(NoPiece):
            failing(None, size=6)
