import unittest

from piecelay.covers import covering, is_covering, length_of
from piecelay.errors import NoCover, NoSet, NoTree
from piecelay.pieces import BASIC, failing, is_set
from tests.made import A0, A1, A2, H0, MORE, RICH, Numbers, all_laid, made_tree, without
from tests.odd import ODD, nested

ONE = ("num", 1)
FIVE = ("add", A0, A1)
SIX = ("mul", A0, ("num", 100))
SEVEN = ("add", FIVE, ("num", 5))
EIGHT = ("mul", FIVE, A1)
NINE = ("add", SEVEN, ("num", 5))
TEN = ("mul", SEVEN, A1)
SLOT = ("slot", ())


def pick(second, third, first=A0):
    return ("pick", first, second, third)


class SetsOfTheTestsTest(unittest.TestCase):
    def test_they_are_sets_that_keep_their_contracts(self):
        self.assertTrue(is_set(RICH))
        self.assertEqual(len(RICH), 16)
        for piece in MORE:
            for size in range(2, 6):
                self.assertIsNone(failing(piece, size=size), piece[0])


class LengthTest(unittest.TestCase):
    def assertBest(self, tree, some, length, cover):
        self.assertEqual(length_of(tree, some), length)
        self.assertEqual(covering(tree, some), cover)

    def test_leaves(self):
        self.assertBest(("num", 0), BASIC, 2, ("one", ()))
        self.assertBest(("num", 99), BASIC, 2, ("one", ()))
        self.assertBest(("num", 100), BASIC, 3, ("two", ()))
        self.assertBest(("num", 9999), BASIC, 3, ("two", ()))
        self.assertBest(("arg", 3), BASIC, 2, SLOT)

    def test_the_four(self):
        for kind in ["add", "sub", "mul", "less"]:
            self.assertBest((kind, A0, A1), BASIC, 5, (kind, (SLOT, SLOT)))
        for kind in ["sub", "mul", "less"]:
            self.assertBest((kind, A0, ONE), BASIC, 5, (kind, (SLOT, ("one", ()))))

    def test_a_num_that_is_added(self):
        self.assertBest(("add", A0, ("num", 99)), BASIC, 4, ("more", (SLOT,)))
        self.assertBest(("add", A0, ("num", 100)), BASIC, 6, ("add", (SLOT, ("two", ()))))
        self.assertBest(("add", ONE, A0), BASIC, 5, ("add", (("one", ()), SLOT)))
        self.assertBest(("add", ONE, ONE), BASIC, 4, ("more", (("one", ()),)))

    def test_the_order_of_the_pieces_does_not_matter_for_the_length(self):
        self.assertBest(("add", A0, ONE), BASIC[::-1], 4, ("more", (SLOT,)))
        self.assertBest(ONE, BASIC[::-1], 2, ("one", ()))

    def test_with_pieces_more(self):
        self.assertBest(("mul", FIVE, ("num", 2)), RICH, 7, ("double", (("add", (SLOT, SLOT)),)))
        self.assertBest(("mul", FIVE, ("num", 3)), RICH, 8, ("mul", (("add", (SLOT, SLOT)), ("one", ()))))
        self.assertBest(("mul", A2, ("num", 0)), RICH, 2, ("nought", ()))
        self.assertBest(("add", ONE, A0), RICH, 4, ("inc", (SLOT,)))
        self.assertBest(("less", EIGHT, ("num", 0)), RICH, 10, ("never", (("mul", (("add", (SLOT, SLOT)), SLOT)),)))

    def test_a_longer_piece_is_not_taken(self):
        self.assertBest(("sub", ONE, A0), RICH, 5, ("sub", (("one", ()), SLOT)))

    def test_the_first_piece_that_fits_is_not_always_best_within(self):
        # The piece for the whole pattern is longer than two pieces, of which one is for the tree in the hole.
        whole = ("whole", ("add", ("mul", H0, ("num", 2)), ("num", 1)), (1, 2, 6, 12, 1, 12, 0))
        tree = ("add", ("mul", A0, ("num", 2)), ONE)
        self.assertBest(tree, [whole] + RICH[:15], 6, ("more", (("double", (SLOT,)),)))
        short = ("short", ("add", ("mul", H0, ("num", 2)), ("num", 1)), (13, 4, 12, 1))
        self.assertEqual(length_of(tree, [short] + BASIC), 6)
        self.assertBest(tree, BASIC + [short], 6, ("short", (SLOT,)))

    def test_with_pieces_fewer(self):
        self.assertBest(ONE, without("one"), 3, ("two", ()))
        self.assertBest(("add", A0, ONE), without("more"), 5, ("add", (SLOT, ("one", ()))))
        self.assertBest(("add", A0, ONE), without("add", "one", "two"), 4, ("more", (SLOT,)))
        self.assertBest(A1, [BASIC[2]], 2, SLOT)

    def test_no_cover(self):
        for tree, some in [(A0, without("slot")), (("num", 100), without("two")), (FIVE, without("add")),
                           (("add", ONE, A0), without("add")), (("add", A0, ("num", 100)), without("add")),
                           (("less", ONE, ("sub", ONE, ONE)), without("sub")),
                           (("less", ("sub", ONE, ONE), ONE), without("sub")),
                           (("sub", ONE, ONE), without("less", "sub")), (("mul", A0, ONE), [BASIC[5]]),
                           (pick(A0, A0, ("num", 100)), without("two")), (pick(("num", 100), A0), without("two")),
                           (pick(A0, ("num", 100)), without("two"))]:
            with self.subTest(tree):
                with self.assertRaises(NoCover):
                    length_of(tree, some)
                with self.assertRaises(NoCover):
                    covering(tree, some)

    def test_a_part_that_no_piece_fits_within_a_pattern_that_does(self):
        self.assertBest(("add", ("add", A0, ONE), ("num", 2)), [BASIC[2], BASIC[7]], 6, ("more", (("more", (SLOT,)),)))

    def test_trees_of_the_utmost(self):
        self.assertEqual(length_of(nested(5), BASIC), 39)
        chain = A0
        for _ in range(7):
            chain = ("sub", chain, A1)
        self.assertEqual(length_of(chain, BASIC), 2 + 7 * 3)
        self.assertEqual(length_of(("pick", nested(5), nested(3), ONE), BASIC), 39 + 2 + 9 + 3 + 2)

    def test_equal_things_give_equal_answers(self):
        same = [("gap", 0, 9999), (2, ("low", 0), ("high", 0))]
        some = [("zz", *same), ("aa", *same), ("mm", *same)]
        self.assertEqual({covering(ONE, list(some)) for _ in range(5)}, {covering(ONE, some)})
        self.assertIn(covering(ONE, some), [("zz", ()), ("aa", ()), ("mm", ())])


class PickLengthTest(unittest.TestCase):
    def assertLength(self, tree, length):
        self.assertEqual(length_of(tree, BASIC), length)

    def test_the_lengths_that_are_used_here(self):
        for length, tree in [(5, FIVE), (6, SIX), (7, SEVEN), (8, EIGHT), (9, NINE), (10, TEN)]:
            self.assertLength(tree, length)

    def test_both_near(self):
        self.assertLength(pick(A1, A2), 6 + 4)
        self.assertEqual(covering(pick(A1, A2), BASIC), ("pick", (SLOT, SLOT, SLOT)))
        self.assertLength(pick(A1, NINE), 2 + 2 + 9 + 4)
        self.assertLength(pick(SEVEN, A1), 2 + 7 + 2 + 4)
        self.assertLength(pick(SEVEN, NINE), 2 + 7 + 9 + 4)

    def test_the_second_jump_far(self):
        self.assertLength(pick(A1, TEN), 2 + 2 + 10 + 5)
        self.assertLength(pick(SIX, TEN), 2 + 6 + 10 + 5)

    def test_the_first_jump_far(self):
        self.assertLength(pick(EIGHT, A1), 2 + 8 + 2 + 5)
        self.assertLength(pick(EIGHT, NINE), 2 + 8 + 9 + 5)
        self.assertLength(pick(TEN, A1), 2 + 10 + 2 + 5)

    def test_both_far(self):
        self.assertLength(pick(SEVEN, TEN), 2 + 7 + 10 + 6)
        self.assertLength(pick(TEN, TEN), 2 + 10 + 10 + 6)

    def test_what_the_first_tree_has_does_not_matter_for_the_jumps(self):
        self.assertLength(pick(SEVEN, NINE, TEN), 10 + 7 + 9 + 4)

    def test_picks_within_picks(self):
        inner = pick(A1, A2)
        self.assertLength(pick(inner, A1), 2 + 10 + 2 + 5)
        self.assertLength(pick(A1, inner), 2 + 2 + 10 + 5)
        self.assertLength(pick(A1, A2, inner), 10 + 2 + 2 + 4)
        self.assertLength(pick(inner, inner, inner), 30 + 6)
        self.assertLength(("add", inner, ONE), 12)

    def test_no_piece_is_asked_for_a_pick(self):
        self.assertEqual(length_of(pick(A1, A2), [BASIC[2]]), 10)
        self.assertEqual(covering(("add", pick(ONE, A2), ONE), BASIC), ("more", (("pick", (SLOT, ("one", ()), SLOT)),)))


class AgainstAllCoveringsTest(unittest.TestCase):
    def assertLeast(self, tree, some):
        found = all_laid(tree, some)
        if not found:
            with self.assertRaises(NoCover):
                length_of(tree, some)
            return
        least = min(len(cells) for _, cells in found)
        self.assertEqual(length_of(tree, some), least)
        self.assertIn(covering(tree, some), [cover for cover, cells in found if len(cells) == least])
        for cover, _ in found[:40]:
            self.assertIs(is_covering(tree, some, cover), True)

    def test_many_trees_with_many_sets(self):
        numbers = Numbers(9)
        sets = [BASIC, RICH, RICH[::-1], MORE + without("mul", "less"), without("two"), without("add", "one"),
                MORE[:4] + [BASIC[2]]]
        for _ in range(80):
            tree = made_tree(numbers, 3)
            for some in sets:
                with self.subTest((tree, [piece[0] for piece in some])):
                    self.assertLeast(tree, some)

    def test_deeper_trees(self):
        numbers = Numbers(12)
        sets = [without("one"), without("more", "two"), without("two") + MORE[:2], without("one", "add") + MORE[5:]]
        for _ in range(40):
            tree = made_tree(numbers, 4)
            some = numbers.one_of(sets)
            with self.subTest((tree, [piece[0] for piece in some])):
                if len(str(tree)) < 300:
                    self.assertLeast(tree, some)


class IsCoveringTest(unittest.TestCase):
    def assertNone(self, tree, thing, some=BASIC):
        self.assertIs(is_covering(tree, some, thing), False)

    def test_any_covering_whatever_its_length(self):
        for cover in [("more", (("one", ()),)), ("more", (("two", ()),)), ("add", (("one", ()), ("two", ())))]:
            self.assertIs(is_covering(("add", ONE, ONE), BASIC, cover), True)

    def test_another_name(self):
        for name in ["slot", "add", "less", "", "One", "pick", "call", "num", "onee", None, 0, True, b"one", ("one",),
                     ["one"]]:
            with self.subTest(name):
                self.assertNone(ONE, (name, ()))

    def test_a_name_that_is_not_in_the_set(self):
        self.assertNone(ONE, ("one", ()), without("one"))
        self.assertNone(("sub", ONE, ONE), ("sub", (("one", ()), ("two", ()))), without("two"))

    def test_a_pattern_that_does_not_fit(self):
        self.assertNone(("num", 100), ("one", ()))
        self.assertNone(("add", ONE, A0), ("more", (("one", ()),)))
        self.assertNone(("sub", A0, A1), ("add", (SLOT, SLOT)))
        self.assertNone(("add", A0, A1), ("add", (SLOT, ("one", ()))))
        self.assertNone(("add", A0, A1), ("add", (("one", ()), SLOT)))

    def test_too_few_or_too_many_coverings_of_holes(self):
        self.assertNone(ONE, ("one", (("one", ()),)))
        self.assertNone(FIVE, ("add", ()))
        self.assertNone(FIVE, ("add", (SLOT,)))
        self.assertNone(FIVE, ("add", (SLOT, SLOT, SLOT)))
        self.assertNone(("add", A0, ONE), ("more", ()))
        self.assertNone(("add", A0, ONE), ("more", (SLOT, ("one", ()))))
        self.assertNone(pick(A1, A2), ("pick", (SLOT, SLOT)))
        self.assertNone(pick(A1, A2), ("pick", (SLOT, SLOT, SLOT, SLOT)))
        self.assertNone(pick(A1, A2), ("pick", ()))
        self.assertNone(("sub", ONE, FIVE), ("sub", (("one", ()), ("add", (SLOT,)))))

    def test_a_list_in_the_place_of_a_tuple(self):
        self.assertIs(is_covering(FIVE, BASIC, ("add", (SLOT, SLOT))), True)
        for thing in [["add", (SLOT, SLOT)], ("add", [SLOT, SLOT]), ("add", (["slot", ()], SLOT)),
                      ("add", (SLOT, ("slot", []))), ("add", (SLOT, ["slot", ()]))]:
            self.assertNone(FIVE, thing)
        self.assertNone(pick(A1, A2), ["pick", (SLOT, SLOT, SLOT)])
        self.assertNone(pick(A1, A2), ("pick", [SLOT, SLOT, SLOT]))

    def test_tuples_of_another_length(self):
        for thing in [(), ("slot",), ("slot", (), ()), (SLOT,), ("slot", None), ("slot", ""), ("slot", {})]:
            self.assertNone(A0, thing)

    def test_a_pick_where_there_is_none(self):
        self.assertNone(FIVE, ("pick", (SLOT, SLOT)))
        self.assertNone(FIVE, ("pick", (SLOT, SLOT, SLOT)))
        self.assertNone(ONE, ("pick", ()))
        self.assertNone(("add", A0, ONE), ("more", (("pick", (SLOT, SLOT, SLOT)),)))

    def test_no_pick_where_there_is_one(self):
        right = ("pick", (SLOT, ("one", ()), SLOT))
        self.assertIs(is_covering(pick(ONE, A2), BASIC, right), True)
        self.assertNone(pick(ONE, A2), ("pick", (SLOT, SLOT, SLOT)))
        self.assertNone(pick(ONE, A2), ("add", (SLOT, SLOT)))
        self.assertNone(pick(ONE, A2), ("one", ()))
        self.assertNone(pick(ONE, A2), SLOT)

    def test_things_of_any_kind(self):
        for at, thing in enumerate(ODD):
            with self.subTest(at):
                self.assertNone(ONE, thing)
                self.assertNone(pick(A1, A2), thing)
                self.assertNone(FIVE, ("add", thing))
                self.assertNone(FIVE, ("add", (SLOT, thing)))
                self.assertNone(FIVE, ("add", (thing, SLOT)))
                self.assertNone(pick(A1, A2), ("pick", (SLOT, thing, SLOT)))

    def test_a_tree_that_can_not_be_covered(self):
        self.assertNone(FIVE, ("add", (SLOT, SLOT)), without("slot"))


class RefusalsTest(unittest.TestCase):
    def assertRefused(self, error, tree, some):
        for call in [length_of, covering, lambda tree, some: is_covering(tree, some, SLOT),
                     lambda tree, some: is_covering(tree, some, None)]:
            with self.assertRaises(error):
                call(tree, some)

    def test_no_tree(self):
        for at, thing in enumerate(ODD + [("num", True), ("arg", 4), nested(6), ("call", 1), H0]):
            with self.subTest(at):
                self.assertRefused(NoTree, thing, BASIC)

    def test_no_set(self):
        for at, thing in enumerate(ODD + [tuple(BASIC), RICH + [("more", *RICH[0][1:])], BASIC + BASIC[:1], BASIC[0],
                                          BASIC + [("pick", ("gap", 0, 9), (1, ("low", 0)))]]):
            with self.subTest(at):
                self.assertRefused(NoSet, ONE, thing)

    def test_which_comes_first(self):
        self.assertRefused(NoTree, None, None)
        self.assertRefused(NoTree, None, without("one"))
        self.assertRefused(NoSet, A0, without("slot") + [None])
