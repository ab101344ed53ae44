import unittest

from piecelay.errors import NoCover, NoParts, NoSet, NoTree
from piecelay.laying import lay
from piecelay.machine import run
from piecelay.pieces import BASIC
from piecelay.sharing import best_part, gain, lay_once
from piecelay.trees import parts_of, worth
from tests.made import A0, A1, A2, A3, H0, H1, LONG_SET, MORE, RICH, Numbers, made_args, made_tree, subs, without
from tests.odd import ODD, nested

ONE, TWO = ("num", 1), ("num", 2)
FIVE = ("mul", A0, A1)
SEVEN = ("add", FIVE, ("num", 9))
NINE = ("add", SEVEN, ("num", 8))
FIVE_CELLS = [3, 0, 3, 1, 6]
SEVEN_CELLS = FIVE_CELLS + [12, 9]
NINE_CELLS = SEVEN_CELLS + [12, 8]

# No piece of it fits a num by itself.
NO_NUMS = without("one", "two")


class LayOnceTest(unittest.TestCase):
    def assertCode(self, tree, parts, code, some=BASIC):
        self.assertEqual(lay_once(tree, some, parts), code)

    def test_no_parts_at_all(self):
        numbers = Numbers(2)
        for _ in range(20):
            tree = made_tree(numbers, 4)
            self.assertCode(tree, [], lay(tree, BASIC))

    def test_a_part_that_stands_several_times(self):
        self.assertCode(("sub", FIVE, ("less", A2, FIVE)), [FIVE],
                        [15, 11, 0, 3, 2, 15, 11, 0, 7, 5, 0] + FIVE_CELLS + [16])
        self.assertCode(("sub", FIVE, FIVE), [FIVE], [15, 8, 0, 15, 8, 0, 5, 0] + FIVE_CELLS + [16])

    def test_a_part_that_stands_once(self):
        self.assertCode(("sub", FIVE, A2), [FIVE], [15, 7, 0, 3, 2, 5, 0] + FIVE_CELLS + [16])

    def test_leaves_as_parts(self):
        self.assertCode(("sub", A0, ("sub", A0, ONE)), [A0], [15, 11, 0, 15, 11, 0, 1, 1, 5, 5, 0, 3, 0, 16])

    def test_the_tree_itself_as_a_part(self):
        self.assertCode(FIVE, [FIVE], [15, 4, 0, 0] + FIVE_CELLS + [16])
        self.assertCode(ONE, [ONE], [15, 4, 0, 0, 1, 1, 16])
        self.assertCode(("sub", FIVE, FIVE), [FIVE, ("sub", FIVE, FIVE)],
                        [15, 10, 0, 0] + FIVE_CELLS + [16] + [15, 4, 0, 15, 4, 0, 5, 16])

    def test_several_parts_in_the_order_in_which_they_were_handed_in(self):
        tree = ("sub", ("less", FIVE, TWO), ("less", TWO, FIVE))
        self.assertCode(tree, [FIVE, TWO],
                        [15, 16, 0, 15, 22, 0, 7, 15, 22, 0, 15, 16, 0, 7, 5, 0] + FIVE_CELLS + [16] + [1, 2, 16])
        self.assertCode(tree, [TWO, FIVE],
                        [15, 19, 0, 15, 16, 0, 7, 15, 16, 0, 15, 19, 0, 7, 5, 0] + [1, 2, 16] + FIVE_CELLS + [16])

    def test_parts_within_parts(self):
        tree = ("sub", SEVEN, ("less", FIVE, SEVEN))
        self.assertCode(tree, [SEVEN, FIVE],
                        [15, 12, 0, 15, 18, 0, 15, 12, 0, 7, 5, 0] + [15, 18, 0, 12, 9, 16] + FIVE_CELLS + [16])
        self.assertCode(tree, [FIVE, SEVEN],
                        [15, 18, 0, 15, 12, 0, 15, 18, 0, 7, 5, 0] + FIVE_CELLS + [16] + [15, 12, 0, 12, 9, 16])

    def test_a_part_that_stands_within_another_one_alone(self):
        self.assertCode(("sub", SEVEN, SEVEN), [FIVE, SEVEN],
                        [15, 14, 0, 15, 14, 0, 5, 0] + FIVE_CELLS + [16] + [15, 8, 0, 12, 9, 16])

    def test_three_within_one_another(self):
        self.assertCode(("less", NINE, A2), [NINE, FIVE, SEVEN],
                        [15, 7, 0, 3, 2, 7, 0] + [15, 19, 0, 12, 8, 16] + FIVE_CELLS + [16] + [15, 13, 0, 12, 9, 16])

    def test_patterns_fit_a_call_only_by_a_hole(self):
        tree = ("add", A0, ONE)
        self.assertCode(tree, [ONE], [3, 0, 15, 7, 0, 4, 0, 1, 1, 16])
        self.assertCode(tree, [A0], [15, 6, 0, 12, 1, 0, 3, 0, 16])
        double = ("mul", A1, TWO)
        self.assertCode(double, [], [3, 1, 13, 4, 0], RICH)
        self.assertCode(double, [TWO], [3, 1, 15, 7, 0, 6, 0, 1, 2, 16], RICH)
        both = ("add", A0, double)
        self.assertCode(both, [double], [3, 0, 15, 7, 0, 4, 0, 3, 1, 13, 4, 16], RICH)

    def test_a_call_has_three_cells_in_coverings_too(self):
        # Over 9 cells with calls of three cells: with calls that count for more the jump would be far.
        tree = ("pick", A3, ("sub", FIVE, ONE), ("sub", ("sub", FIVE, ONE), A2))
        self.assertCode(tree, [FIVE], [3, 3, 10, 8] + [15, 22, 0, 1, 1, 5] + [8, 9]
                        + [15, 22, 0, 1, 1, 5, 3, 2, 5] + [0] + FIVE_CELLS + [16])
        # Over 10 cells: with calls that count for less it would be near.
        tree = ("pick", A3, ("sub", FIVE, FIVE), ("sub", ("sub", FIVE, FIVE), A2))
        self.assertCode(tree, [FIVE], [3, 3, 11, 10, 0] + [15, 26, 0, 15, 26, 0, 5] + [9, 10, 0]
                        + [15, 26, 0, 15, 26, 0, 5, 3, 2, 5] + [0] + FIVE_CELLS + [16])

    def test_a_call_may_make_another_covering_the_least(self):
        # A piece that fits the part and what is about it can not be laid about a call.
        whole = ("whole", ("sub", ("mul", H0, H1), ("num", 1)), (6, 1, 1, 5, 12, 0))
        tree = ("sub", FIVE, ONE)
        some = without("sub") + [whole]
        self.assertCode(tree, [], [3, 0, 3, 1, 6, 1, 1, 5, 12, 0, 0], some)
        with self.assertRaises(NoCover):
            lay_once(tree, some, [FIVE])
        self.assertCode(tree, [A0], [15, 12, 0, 3, 1, 6, 1, 1, 5, 12, 0, 0, 3, 0, 16], some)

    def test_places_of_100_and_more(self):
        code = lay_once(("less", subs(4), ("less", FIVE, FIVE)), LONG_SET, [FIVE])
        self.assertEqual(code[93:], [15, 2, 1, 15, 2, 1, 7, 7, 0] + FIVE_CELLS + [16])
        self.assertEqual(code[:93], lay(subs(4), LONG_SET)[:-1])

    def test_places_of_whole_hundreds_and_one_less(self):
        for ahead, place in [(subs(4), 98), (("add", subs(4), ONE), 100), (("mul", subs(4), A0), 101), (subs(5), 202),
                             (("mul", ("mul", subs(4), subs(4)), ("mul", A2, A3)), 198)]:
            code = lay_once(("less", ahead, FIVE), LONG_SET, [FIVE])
            self.assertEqual(code[:place], lay(ahead, LONG_SET)[:-1] + [15, place % 100, place // 100, 7, 0])
            self.assertEqual(code[place:], FIVE_CELLS + [16])

    def test_pieces_named_call_and_calls(self):
        tree = ("sub", ("mul", ("num", 300), ONE), ("mul", ("num", 300), ONE))
        self.assertCode(tree, [("mul", ("num", 300), ONE)], [15, 8, 0, 15, 8, 0, 5, 0, 2, 0, 3, 16], RICH)

    def test_six_parts(self):
        tree = ("pick", ("sub", A0, A1), ("sub", A2, A3), ("sub", ONE, TWO))
        parts = [A0, A1, A2, A3, ONE, TWO]
        code = lay_once(tree, BASIC, parts)
        self.assertEqual(code[-18:], [3, 0, 16, 3, 1, 16, 3, 2, 16, 3, 3, 16, 1, 1, 16, 1, 2, 16])
        self.assertEqual(code[:7], [15, 26, 0, 15, 29, 0, 5])

    def test_the_list_is_a_new_one(self):
        parts = [FIVE]
        lay_once(FIVE, BASIC, parts).clear()
        self.assertCode(FIVE, parts, [15, 4, 0, 0] + FIVE_CELLS + [16])
        self.assertEqual(parts, [FIVE])

    def test_it_tells_what_the_tree_is_worth(self):
        numbers = Numbers(31)
        for _ in range(80):
            tree = made_tree(numbers, 4)
            parts = []
            for _ in range(numbers.below(7)):
                part = numbers.one_of(parts_of(tree))
                if part not in parts:
                    parts.append(part)
            for some in [BASIC, MORE + without("more")]:
                code = lay_once(tree, some, parts)
                for size in [2, 3, 10, 10000]:
                    args = made_args(numbers, size)
                    with self.subTest((tree, parts, size, args)):
                        self.assertEqual(run(code, args, size=size), worth(tree, args, size=size))


class NoPartsTest(unittest.TestCase):
    TREE = ("sub", SEVEN, ("less", ONE, ("pick", TWO, A2, A3)))

    def assertNoParts(self, thing, tree=TREE):
        with self.assertRaises(NoParts):
            lay_once(tree, BASIC, thing)

    def test_no_list(self):
        for thing in [None, (), (FIVE,), FIVE, {}, {FIVE: True}, {FIVE}, "", "ab", 0, 1, True, object(), iter([FIVE])]:
            self.assertNoParts(thing)

    def test_one_that_is_no_tree(self):
        for at, thing in enumerate(ODD + [("num", True), ("arg", 4), nested(6), ("call", 1), H0, list(FIVE)]):
            with self.subTest(at):
                self.assertNoParts([thing])
                self.assertNoParts([FIVE, thing])
                self.assertNoParts([thing, FIVE])

    def test_true_is_no_1(self):
        self.assertNoParts([("num", True)], ("sub", ONE, A0))
        self.assertNoParts([("arg", False)], ("sub", ONE, A0))

    def test_one_that_is_no_part_of_the_tree(self):
        for part in [("num", 3), ("mul", A1, A0), ("add", A0, A1), ("less", ONE, TWO), ("pick", TWO, A2, A2)]:
            self.assertNoParts([part])
            self.assertNoParts([A0, part])
        self.assertNoParts([("sub", ONE, ONE)], ONE)

    def test_two_alike(self):
        self.assertNoParts([FIVE, FIVE])
        self.assertNoParts([A0, FIVE, A1, tuple(list(A0))])

    def test_more_than_6(self):
        parts = parts_of(self.TREE)
        unlike = [part for at, part in enumerate(parts) if part not in parts[:at]]
        lay_once(self.TREE, BASIC, unlike[:6])
        self.assertNoParts(unlike[:7])

    def test_which_comes_first(self):
        with self.assertRaises(NoTree):
            lay_once(None, None, None)
        with self.assertRaises(NoSet):
            lay_once(ONE, None, None)
        with self.assertRaises(NoSet):
            lay_once(ONE, [], [ONE])
        with self.assertRaises(NoParts):
            lay_once(ONE, NO_NUMS, [TWO])
        with self.assertRaises(NoCover):
            lay_once(ONE, NO_NUMS, [ONE])

    def test_no_cover(self):
        added = ("add", A0, ONE)
        for tree, some, parts in [(ONE, NO_NUMS, []), (("sub", A0, ONE), NO_NUMS, [A0]),
                                  # the part is covered by no piece of its own, though the tree is
                                  (added, NO_NUMS, [ONE]), (added, NO_NUMS, [A0, ONE]),
                                  # the part is covered, but not the tree with a call in it
                                  (added, without("add"), [ONE]),
                                  # and so in a part with a call in it
                                  (("sub", added, A1), without("add"), [added, ONE])]:
            with self.subTest((tree, parts)):
                with self.assertRaises(NoCover):
                    lay_once(tree, some, parts)
        self.assertEqual(lay_once(added, NO_NUMS, [A0]), [15, 6, 0, 12, 1, 0, 3, 0, 16])


class GainTest(unittest.TestCase):
    def test_what_a_part_gains(self):
        twice = ("sub", NINE, NINE)
        self.assertEqual(gain(twice, BASIC, NINE), 2)
        self.assertEqual(gain(twice, BASIC, SEVEN), 0)
        self.assertEqual(gain(("sub", twice, NINE), BASIC, NINE), 8)

    def test_less_than_nothing(self):
        twice = ("sub", NINE, NINE)
        self.assertEqual(gain(twice, BASIC, FIVE), -2)
        self.assertEqual(gain(twice, BASIC, A0), -5)
        self.assertEqual(gain(twice, BASIC, ("num", 9)), -7)
        self.assertEqual(gain(twice, BASIC, twice), -4)
        self.assertEqual(gain(ONE, BASIC, ONE), -4)

    def test_jumps_that_come_near(self):
        tree = ("pick", A3, NINE, ("sub", NINE, A2))
        self.assertEqual(len(lay(tree, BASIC)), 2 + 9 + 12 + 6 + 1)
        self.assertEqual(gain(tree, BASIC, NINE), 30 - (2 + 3 + 6 + 4 + 1 + 9 + 1))

    def test_it_is_the_difference_of_the_codes(self):
        numbers = Numbers(17)
        for _ in range(25):
            tree = made_tree(numbers, 4)
            for some in [BASIC, RICH]:
                for part in parts_of(tree):
                    told = gain(tree, some, part)
                    self.assertEqual(told, len(lay(tree, some)) - len(lay_once(tree, some, [part])))

    def test_no_parts(self):
        for at, thing in enumerate(ODD + [("num", True), TWO, [ONE], (ONE,), ("call", 1), H0]):
            with self.subTest(at):
                with self.assertRaises(NoParts):
                    gain(("sub", ONE, A0), BASIC, thing)

    def test_no_cover(self):
        added = ("add", A0, ONE)
        for tree, some, part in [(ONE, NO_NUMS, ONE), (("sub", A0, ONE), NO_NUMS, A0), (added, NO_NUMS, ONE),
                                 (added, without("add"), ONE)]:
            with self.subTest((tree, part)):
                with self.assertRaises(NoCover):
                    gain(tree, some, part)
        self.assertEqual(gain(added, NO_NUMS, A0), -4)

    def test_which_comes_first(self):
        for error, tree, some, part in [(NoTree, None, None, None), (NoTree, None, BASIC, ONE),
                                        (NoSet, ONE, None, None), (NoSet, ONE, [], ONE),
                                        (NoParts, ONE, NO_NUMS, TWO), (NoCover, ONE, NO_NUMS, ONE)]:
            with self.assertRaises(error):
                gain(tree, some, part)


class BestPartTest(unittest.TestCase):
    def assertBest(self, tree, best, some=BASIC):
        self.assertEqual(best_part(tree, some), best)

    def test_the_one_that_gains_most(self):
        self.assertBest(("sub", NINE, NINE), NINE)
        self.assertBest(("sub", NINE, ("less", NINE, SEVEN)), SEVEN)
        many = ("sub", ("less", FIVE, FIVE), ("less", FIVE, FIVE))
        self.assertEqual(gain(many, BASIC, ("less", FIVE, FIVE)), 4)
        self.assertEqual(gain(many, BASIC, FIVE), 2)
        self.assertBest(many, ("less", FIVE, FIVE))
        more = ("sub", many, ("less", FIVE, ("sub", FIVE, FIVE)))
        self.assertEqual(gain(more, BASIC, FIVE), 8)
        self.assertBest(more, FIVE)

    def test_of_several_that_gain_as_much_the_first_in_the_tree(self):
        other = ("add", ("add", ("mul", A2, A3), ("num", 9)), ("num", 8))
        for first, second in [(NINE, other), (other, NINE)]:
            tree = ("mul", ("sub", first, second), ("less", second, first))
            self.assertEqual(gain(tree, BASIC, first), 2)
            self.assertEqual(gain(tree, BASIC, second), 2)
            self.assertBest(tree, first)

    def test_ahead_of_what_is_within_it(self):
        both = ("mul", SEVEN, SEVEN)
        tree = ("sub", both, both)
        self.assertEqual(gain(tree, BASIC, both), 8)
        self.assertEqual(gain(tree, BASIC, SEVEN), 8)
        self.assertBest(tree, both)

    def test_a_part_that_stands_first_within_ahead_of_a_later_one_outside(self):
        later = ("add", ("add", ("mul", A2, A3), ("num", 9)), ("num", 8))
        tree = ("mul", ("sub", ("less", A3, NINE), later), ("less", later, NINE))
        self.assertBest(tree, NINE)

    def test_none_where_none_gains(self):
        for tree in [ONE, A0, FIVE, ("sub", FIVE, FIVE), ("sub", SEVEN, SEVEN), nested(2)]:
            self.assertTrue(all(gain(tree, BASIC, part) <= 0 for part in parts_of(tree)))
            self.assertIsNone(best_part(tree, BASIC))
        self.assertEqual(gain(("sub", SEVEN, SEVEN), BASIC, SEVEN), 0)

    def test_against_what_each_part_gains(self):
        numbers = Numbers(23)
        found = 0
        for _ in range(40):
            half = made_tree(numbers, 3)
            tree = (numbers.one_of(["add", "sub", "mul"]), half, ("sub", made_tree(numbers, 2), half))
            for some in [BASIC, RICH]:
                gains = [(gain(tree, some, part), part) for part in parts_of(tree)]
                most = max(one for one, _ in gains)
                best = [part for one, part in gains if one == most][0] if most > 0 else None
                found += best is not None
                self.assertBest(tree, best, some)
        self.assertGreater(found, 20)

    def test_parts_with_which_there_is_no_covering_gain_nothing(self):
        deep = ("add", ("add", ("mul", A0, A1), ONE), ONE)
        self.assertBest(("sub", deep, deep), deep, NO_NUMS)
        self.assertIsNone(best_part(("add", A0, ONE), NO_NUMS))

    def test_no_cover(self):
        for tree, some in [(ONE, NO_NUMS), (("sub", A0, ONE), NO_NUMS), (("sub", NINE, NINE), without("slot"))]:
            with self.assertRaises(NoCover):
                best_part(tree, some)


class RefusalsTest(unittest.TestCase):
    def assertRefused(self, error, tree, some):
        for call in [lambda tree, some: lay_once(tree, some, [ONE]), lambda tree, some: gain(tree, some, ONE),
                     best_part]:
            with self.assertRaises(error):
                call(tree, some)

    def test_no_tree(self):
        for at, thing in enumerate(ODD + [("num", True), ("arg", 4), nested(6), ("call", 1), H0]):
            with self.subTest(at):
                self.assertRefused(NoTree, thing, BASIC)

    def test_no_set(self):
        for at, thing in enumerate(ODD + [tuple(BASIC), RICH + [("zz", *BASIC[0][1:])], BASIC + BASIC[:1], BASIC[0]]):
            with self.subTest(at):
                self.assertRefused(NoSet, ONE, thing)

    def test_which_comes_first(self):
        self.assertRefused(NoTree, None, None)
        self.assertRefused(NoSet, ONE, NO_NUMS + [None])
        self.assertRefused(NoCover, ONE, NO_NUMS)
