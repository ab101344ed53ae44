"""What is promised over the whole program: nothing handed in is changed, and what is told is told anew each time."""

import copy
import unittest

from piecelay import covers, laying, machine, pieces, sharing, shops, trees
from piecelay.errors import PieceError
from tests.made import A0, A1, A2, H0, H1, MORE, RICH, without

ARGS = (4, 3, 2, 9)
ONE = ("num", 1)
PART = ("mul", ("add", A0, ("num", 9)), ("add", A1, ("num", 100)))
TREE = ("pick", ("less", PART, A2), ("add", PART, ONE), ("sub", ONE, PART))
SHORT = ("add", A0, ONE)
CODE = [3, 0, 12, 1, 0]

# Each call with what is handed in: answers first, then what is refused.
CALLS = [
    (trees.is_tree, [TREE], {}),
    (trees.worth, [TREE, ARGS], {"size": 10}),
    (trees.parts_of, [TREE], {}),
    (machine.is_code, [CODE], {}),
    (machine.run, [CODE, ARGS], {"size": 10}),
    (machine.listed, [CODE], {}),
    (machine.trace, [CODE, ARGS], {"size": 10, "steps": 7}),
    (pieces.is_piece, [RICH[13]], {}),
    (pieces.is_set, [list(RICH)], {}),
    (pieces.fits, [pieces.BASIC[7], SHORT], {}),
    (pieces.failing, [("wrong", ("add", H0, H1), (5,))], {"size": 3}),
    (covers.length_of, [TREE, list(RICH)], {}),
    (covers.covering, [TREE, list(RICH)], {}),
    (covers.is_covering, [SHORT, list(RICH), ("more", (("slot", ()),))], {}),
    (covers.is_covering, [SHORT, list(RICH), ("more", [["slot", []]])], {}),
    (laying.lay, [TREE, list(RICH)], {}),
    (laying.laid, [SHORT, list(RICH), ("add", (("slot", ()), ("two", ())))], {}),
    (sharing.lay_once, [TREE, list(RICH), [PART, A0, TREE]], {}),
    (sharing.gain, [TREE, list(RICH), PART], {}),
    (sharing.best_part, [TREE, list(RICH)], {}),
]
REFUSED = [
    (trees.worth, [["num", 1], ARGS], {"size": 10}),
    (trees.worth, [TREE, [4, 3, 2, 9]], {"size": 10}),
    (trees.parts_of, [["num", [1]]], {}),
    (machine.run, [[3, True, 0], ARGS], {"size": 10}),
    (machine.run, [[4, 0], ARGS], {"size": 10}),
    (machine.listed, [[4, 17]], {}),
    (machine.trace, [[3, "0"], ARGS], {"size": 10}),
    (pieces.fits, [["one", [], []], SHORT], {}),
    (pieces.failing, [pieces.BASIC[0]], {"size": [3]}),
    (covers.length_of, [TREE, without("slot")], {}),
    (covers.covering, [TREE, [[]] + without("slot")], {}),
    (covers.is_covering, [["num", 1], list(RICH), []], {}),
    (laying.lay, [TREE, without("one", "two")], {}),
    (laying.laid, [SHORT, list(RICH), ["more", [["slot", []]]]], {}),
    (sharing.lay_once, [TREE, list(RICH), [PART, A0, PART]], {}),
    (sharing.lay_once, [SHORT, without("add"), [ONE]], {}),
    (sharing.gain, [TREE, list(RICH), [PART]], {}),
    (sharing.best_part, [TREE, without("less")], {}),
    (shops.Shop, [list(RICH) + [MORE[0]]], {}),
]


def named(row):
    call, things, names = row
    return (call.__module__, call.__name__, str(things)[:60])


class CallsTest(unittest.TestCase):
    def test_nothing_that_is_handed_in_is_changed(self):
        for call, things, names in CALLS:
            with self.subTest(named((call, things, names))):
                handed = copy.deepcopy(things)
                call(*handed, **names)
                self.assertEqual(handed, things)

    def test_nor_by_what_is_refused(self):
        for call, things, names in REFUSED:
            with self.subTest(named((call, things, names))):
                handed = copy.deepcopy(things)
                with self.assertRaises(PieceError):
                    call(*handed, **names)
                self.assertEqual(handed, things)

    def test_equal_things_give_equal_answers(self):
        for call, things, names in CALLS:
            with self.subTest(named((call, things, names))):
                first = call(*copy.deepcopy(things), **names)
                for other in REFUSED[::5]:
                    with self.assertRaises(PieceError):
                        other[0](*other[1], **other[2])
                self.assertEqual(call(*copy.deepcopy(things), **names), first)

    def test_lists_that_are_told_are_new_ones(self):
        told = 0
        for call, things, names in CALLS:
            first = call(*things, **names)
            if isinstance(first, list):
                told += 1
                with self.subTest(named((call, things, names))):
                    kept = copy.deepcopy(first)
                    self.assertTrue(all(first is not thing for thing in things))
                    first.clear()
                    self.assertEqual(call(*things, **names), kept)
        self.assertEqual(told, 6)

    def test_basic_is_as_it_was_behind_all_calls(self):
        before = copy.deepcopy(pieces.BASIC)
        for call, things, names in CALLS:
            things = [pieces.BASIC if thing == RICH else thing for thing in things]
            call(*things, **names)
        self.assertEqual(pieces.BASIC, before)

    def test_the_list_of_pieces_may_change_behind_a_call(self):
        some = list(pieces.BASIC)
        self.assertEqual(laying.lay(SHORT, some), [3, 0, 12, 1, 0])
        del some[7]
        self.assertEqual(laying.lay(SHORT, some), [3, 0, 1, 1, 4, 0])


class TruthsTest(unittest.TestCase):
    """True and False are no whole numbers, wherever a thing is handed in."""

    def test_in_trees(self):
        for wrong in [("num", True), ("arg", False), ("add", A0, ("num", True)), ("pick", A0, ("arg", True), A1)]:
            self.assertIs(trees.is_tree(wrong), False)
            for call in [covers.length_of, covers.covering, laying.lay, sharing.best_part]:
                with self.assertRaises(PieceError) as caught:
                    call(wrong, list(RICH))
                self.assertEqual(type(caught.exception).__name__, "NoTree")

    def test_in_sets(self):
        for wrong in [("one", ("gap", False, 99), (1, ("low", 0))), ("one", ("gap", 0, True), (1, ("low", 0))),
                      ("one", ("gap", 0, 99), (True, ("low", 0))), ("one", ("gap", 0, 99), (1, ("low", False))),
                      ("one", ("num", True), (1, 1)), ("one", ("num", 1), (1, True))]:
            for call in [covers.length_of, covers.covering, laying.lay, sharing.best_part]:
                with self.assertRaises(PieceError) as caught:
                    call(A0, without("one") + [wrong])
                self.assertEqual(type(caught.exception).__name__, "NoSet")

    def test_in_args_and_sizes(self):
        shop = shops.Shop()
        shop.lay("a", A0)
        for args, size, name in [((0, 0, True, 0), 3, "NoArgs"), ((0, 0, 0, 0), True, "NoSize")]:
            with self.assertRaises(PieceError) as caught:
                shop.run("a", args, size=size)
            self.assertEqual(type(caught.exception).__name__, name)
