import unittest

from piecelay.covers import covering, is_covering, length_of
from piecelay.errors import NoCover, NoSet, NoTree
from piecelay.laying import laid, lay
from piecelay.machine import is_code, listed, run
from piecelay.pieces import BASIC, failing
from piecelay.trees import worth
from tests.made import (A0, A1, A2, A3, H0, LONG, LONG_SET, MORE, RICH, Numbers, all_laid, made_args, made_tree, subs,
                        without)
from tests.odd import ODD, nested

ONE = ("num", 1)
SLOT = ("slot", ())
SEVEN = ("add", ("add", A0, A1), ("num", 5))
NINE = ("add", SEVEN, ("num", 6))
TEN = ("mul", SEVEN, A1)
SEVEN_CELLS = [3, 0, 3, 1, 4, 12, 5]
NINE_CELLS = SEVEN_CELLS + [12, 6]
TEN_CELLS = SEVEN_CELLS + [3, 1, 6]


class LayTest(unittest.TestCase):
    def assertCode(self, tree, code, some=BASIC):
        self.assertEqual(lay(tree, some), code)

    def test_leaves(self):
        self.assertCode(("num", 0), [1, 0, 0])
        self.assertCode(("num", 99), [1, 99, 0])
        self.assertCode(("num", 100), [2, 0, 1, 0])
        self.assertCode(("num", 1234), [2, 34, 12, 0])
        self.assertCode(("num", 9999), [2, 99, 99, 0])
        for k in range(4):
            self.assertCode(("arg", k), [3, k, 0])

    def test_holes_in_order_then_the_cells_of_the_piece(self):
        for kind, cell in [("add", 4), ("sub", 5), ("mul", 6), ("less", 7)]:
            self.assertCode((kind, A2, ("arg", 3)), [3, 2, 3, 3, cell, 0])
        self.assertCode(("sub", ("mul", A0, A1), ("less", A2, ONE)), [3, 0, 3, 1, 6, 3, 2, 1, 1, 7, 5, 0])

    def test_gaps_and_slots_are_filled(self):
        self.assertCode(("add", A0, ("num", 17)), [3, 0, 12, 17, 0])
        cells = (2, ("low", 0), ("high", 0), 2, ("low", 1), ("high", 1), 5)
        gaps = [("gaps", ("sub", ("gap", 0, 9999), ("gap", 1, 9999)), cells)]
        self.assertCode(("sub", ("num", 1234), ("num", 5678)), [2, 34, 12, 2, 78, 56, 5, 0], gaps)
        slots = [("slots", ("less", ("slot", 0), ("slot", 1)), (3, ("arg", 1), 3, ("arg", 0), 14, 7))]
        self.assertCode(("less", A2, A3), [3, 3, 3, 2, 14, 7, 0], slots)

    def test_near_jumps(self):
        self.assertCode(("pick", A0, A1, A2), [3, 0, 10, 4, 3, 1, 8, 2, 3, 2, 0])
        self.assertCode(("pick", A0, SEVEN, NINE), [3, 0, 10, 9] + SEVEN_CELLS + [8, 9] + NINE_CELLS + [0])

    def test_far_jumps(self):
        self.assertCode(("pick", A0, A1, TEN), [3, 0, 10, 5, 3, 1, 9, 10, 0] + TEN_CELLS + [0])
        self.assertCode(("pick", A0, NINE, A1), [3, 0, 11, 11, 0] + NINE_CELLS + [8, 2, 3, 1, 0])
        self.assertCode(("pick", A0, SEVEN, TEN), [3, 0, 11, 10, 0] + SEVEN_CELLS + [9, 10, 0] + TEN_CELLS + [0])

    def test_jumps_over_100_cells_and_more(self):
        long = lay(subs(4), LONG_SET)[:-1]
        self.assertEqual(len(long), 8 * 2 + 7 * 11)
        tree = ("pick", A0, ("sub", subs(4), A0), ("sub", subs(4), ("sub", A1, A1)))
        second = long + [3, 0] + list(LONG[2])
        third = long + [3, 1, 3, 1] + list(LONG[2]) + list(LONG[2])
        self.assertEqual((len(second), len(third)), (106, 119))
        self.assertCode(tree, [3, 0, 11, 9, 1] + second + [9, 19, 1] + third + [0], LONG_SET)

    def test_jumps_over_whole_hundreds_and_one_less(self):
        more = ("add", ("add", ("mul", subs(4), A0), ONE), ONE)
        for third, many in [(("mul", ("mul", subs(4), A0), A0), 99), (more, 100), (("sub", subs(4), ONE), 106),
                            (("add", ("mul", subs(4), A0), ("num", 100)), 100), (("add", subs(5), ONE), 199)]:
            code = lay(("pick", A0, A1, third), LONG_SET)
            self.assertEqual(code, [3, 0, 10, 5, 3, 1, 9, many % 100, many // 100] + lay(third, LONG_SET))
            self.assertEqual(len(code), 2 + 2 + 2 + 3 + many + 1)

    def test_picks_within_picks(self):
        inner = [3, 0, 10, 4, 3, 1, 8, 2, 3, 2]
        pick = ("pick", A0, A1, A2)
        self.assertCode(("pick", pick, pick, pick), inner + [11, 13, 0] + inner + [9, 10, 0] + inner + [0])
        self.assertCode(("pick", ONE, ONE, pick), [1, 1, 10, 5, 1, 1, 9, 10, 0] + inner + [0])
        self.assertCode(("add", pick, ONE), inner + [12, 1, 0])

    def test_it_is_the_least_covering_laid(self):
        self.assertCode(("add", ONE, A0), [3, 0, 12, 1, 0], RICH)
        self.assertCode(("mul", A3, ("num", 0)), [1, 0, 0], RICH)
        self.assertCode(ONE, [2, 1, 0, 0], without("one"))
        numbers = Numbers(3)
        for some in [BASIC, RICH, LONG_SET]:
            for _ in range(20):
                tree = made_tree(numbers, 4)
                code = lay(tree, some)
                self.assertEqual(len(code), length_of(tree, some) + 1)
                self.assertEqual(code, laid(tree, some, covering(tree, some)))

    def test_a_piece_may_be_named_call(self):
        self.assertCode(("add", ("mul", ("num", 300), ONE), A0), [2, 0, 3, 3, 0, 4, 0], RICH)

    def test_no_cover(self):
        for tree, some in [(A0, without("slot")), (("num", 100), without("two")), (("add", ONE, A0), without("add")),
                           (("pick", ONE, ONE, A0), without("slot"))]:
            with self.assertRaises(NoCover):
                lay(tree, some)

    def test_the_list_is_a_new_one(self):
        lay(ONE, BASIC).clear()
        self.assertCode(ONE, [1, 1, 0])


class RunTest(unittest.TestCase):
    def assertWorth(self, tree, code, numbers):
        self.assertTrue(is_code(code))
        self.assertEqual(listed(code)[-1], (len(code) - 1, "end", ()))
        for size in [2, 3, 5, 7, 100, 101, 9999, 10000]:
            for args in [(0, 0, 0, 0), made_args(numbers, size), made_args(numbers, size)]:
                self.assertEqual(run(code, args, size=size), worth(tree, args, size=size))

    def test_long_is_a_piece_that_keeps_its_contract(self):
        self.assertEqual([failing(LONG, size=size) for size in range(2, 6)], [None] * 4)

    def test_trees_of_many_kinds(self):
        numbers = Numbers(5)
        for at in range(150):
            tree = made_tree(numbers, 1 + at % 4)
            for some in [BASIC, RICH, LONG_SET, MORE + without("more")]:
                with self.subTest((tree, some[-1][0])):
                    self.assertWorth(tree, lay(tree, some), numbers)

    def test_picks_both_ways(self):
        tree = ("pick", A0, ("pick", A1, TEN, A2), ("pick", ("less", A1, A2), NINE, ("sub", A3, ONE)))
        code = lay(tree, BASIC)
        for args in [(a, b, c, 4) for a in range(3) for b in range(3) for c in range(3)]:
            self.assertEqual(run(code, args, size=7), worth(tree, args, size=7))

    def test_jumps_over_100_cells_and_more(self):
        tree = ("pick", A0, ("sub", subs(4), A0), ("sub", subs(4), A2))
        self.assertWorth(tree, lay(tree, LONG_SET), Numbers(8))

    def test_the_largest_trees(self):
        numbers = Numbers(6)
        deep = A0
        for at in range(7):
            deep = ("sub", ("arg", at % 4), deep) if at % 2 else ("pick", deep, ("num", at), deep if at < 2 else A1)
        for tree in [deep, nested(5), ("pick", nested(3), A1, nested(5))]:
            self.assertWorth(tree, lay(tree, BASIC), numbers)

    def test_any_covering(self):
        numbers = Numbers(7)
        for _ in range(60):
            tree = made_tree(numbers, 3)
            for cover, cells in all_laid(tree, RICH)[:25]:
                with self.subTest((tree, cover)):
                    code = laid(tree, RICH, cover)
                    self.assertEqual(code, cells + [0])
                    self.assertWorth(tree, code, numbers)


class LaidTest(unittest.TestCase):
    def test_any_covering_as_it_is(self):
        tree = ("add", ONE, ("num", 2))
        self.assertEqual(laid(tree, BASIC, ("more", (("one", ()),))), [1, 1, 12, 2, 0])
        self.assertEqual(laid(tree, BASIC, ("more", (("two", ()),))), [2, 1, 0, 12, 2, 0])
        self.assertEqual(laid(tree, BASIC, ("add", (("two", ()), ("one", ())))), [2, 1, 0, 1, 2, 4, 0])

    def test_jumps_by_what_is_laid(self):
        tree = ("pick", ONE, A1, ("sub", ("sub", ONE, ONE), ONE))
        short, long = ("one", ()), ("two", ())
        near = ("pick", (short, SLOT, ("sub", (("sub", (short, long)), short))))
        self.assertEqual(laid(tree, BASIC, near), [1, 1, 10, 4, 3, 1, 8, 9, 1, 1, 2, 1, 0, 5, 1, 1, 5, 0])
        far = ("pick", (short, SLOT, ("sub", (("sub", (long, long)), short))))
        self.assertEqual(laid(tree, BASIC, far), [1, 1, 10, 5, 3, 1, 9, 10, 0, 2, 1, 0, 2, 1, 0, 5, 1, 1, 5, 0])

    def test_no_covering(self):
        for tree, thing in [(ONE, SLOT), (ONE, ("one", (SLOT,))), (ONE, ["one", ()]), (ONE, ("one", [])),
                            (("num", 100), ("one", ())), (("add", A0, A1), ("add", (SLOT,))),
                            (("add", A0, A1), ("pick", (SLOT, SLOT))),
                            (("add", A0, A1), ("more", (SLOT,))), (("pick", A0, A1, A2), ("pick", (SLOT, SLOT))),
                            (("pick", A0, A1, A2), ("add", (SLOT, SLOT)))]:
            with self.subTest(thing):
                self.assertIs(is_covering(tree, BASIC, thing), False)
                with self.assertRaises(NoCover):
                    laid(tree, BASIC, thing)

    def test_things_of_any_kind(self):
        for at, thing in enumerate(ODD):
            with self.subTest(at):
                for tree, cover in [(ONE, thing), (("add", A0, A1), ("add", (SLOT, thing))),
                                    (("add", A0, ONE), ("more", thing)),
                                    (("pick", A0, A1, A2), ("pick", (thing, SLOT, SLOT)))]:
                    with self.assertRaises(NoCover):
                        laid(tree, BASIC, cover)

    def test_the_list_is_a_new_one(self):
        cover = ("one", ())
        laid(ONE, BASIC, cover).clear()
        self.assertEqual(laid(ONE, BASIC, cover), [1, 1, 0])


class RefusalsTest(unittest.TestCase):
    def assertRefused(self, error, tree, some):
        for call in [lay, lambda tree, some: laid(tree, some, ("one", ())), lambda tree, some: laid(tree, some, None)]:
            with self.assertRaises(error):
                call(tree, some)

    def test_no_tree(self):
        for at, thing in enumerate(ODD + [("num", True), ("arg", 4), nested(6), ("call", 0), H0]):
            with self.subTest(at):
                self.assertRefused(NoTree, thing, BASIC)

    def test_no_set(self):
        for at, thing in enumerate(ODD + [tuple(BASIC), RICH + [LONG], BASIC + BASIC[:1], BASIC[0]]):
            with self.subTest(at):
                self.assertRefused(NoSet, ONE, thing)

    def test_which_comes_first(self):
        self.assertRefused(NoTree, None, None)
        self.assertRefused(NoTree, H0, without("one"))
        self.assertRefused(NoSet, A0, without("slot") + [None])
        self.assertRefused(NoCover, A0, without("slot"))
