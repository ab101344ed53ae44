import unittest

from piecelay.errors import NoArgs, NoSize, NoTree
from piecelay.trees import is_tree, parts_of, worth
from tests.odd import ODD, nested

ONE = ("num", 1)
ZERO = ("num", 0)
NO_ARGS = (0, 0, 0, 0)


def chain(deep):
    tree = ONE
    for _ in range(deep - 1):
        tree = ("add", tree, ("arg", 0))
    return tree


FORTY = ("pick", nested(5), nested(3), ONE)
FORTY_ONE = ("add", nested(5), ("mul", nested(3), ONE))


class IsTreeTest(unittest.TestCase):
    def test_each_kind(self):
        for tree in [("num", 5), ("arg", 2), ("add", ONE, ZERO), ("sub", ONE, ZERO), ("mul", ONE, ZERO),
                     ("less", ONE, ZERO), ("pick", ONE, ZERO, ("arg", 3))]:
            with self.subTest(tree):
                self.assertIs(is_tree(tree), True)

    def test_numbers_at_their_bounds(self):
        for tree in [("num", 0), ("num", 9999), ("arg", 0), ("arg", 3)]:
            with self.subTest(tree):
                self.assertIs(is_tree(tree), True)

    def test_numbers_beyond_their_bounds(self):
        for tree in [("num", -1), ("num", 10000), ("arg", -1), ("arg", 4), ("num", 10**40)]:
            with self.subTest(tree):
                self.assertIs(is_tree(tree), False)
                self.assertIs(is_tree(("add", ONE, tree)), False)

    def test_true_and_false_are_no_numbers(self):
        for kind in ["num", "arg"]:
            for truth in [True, False]:
                self.assertIs(is_tree((kind, truth)), False)
                self.assertIs(is_tree(("pick", ONE, ONE, (kind, truth))), False)

    def test_no_number_at_all(self):
        for thing in [None, "1", (1,), [1], ONE, b"1"]:
            self.assertIs(is_tree(("num", thing)), False)
            self.assertIs(is_tree(("arg", thing)), False)

    def test_wrong_lengths(self):
        for thing in [("num",), ("num", 1, 1), ("arg", 0, 0), ("add", ONE), ("add", ONE, ONE, ONE), ("sub", ONE),
                      ("mul", ONE), ("less", ONE, ONE, ONE), ("pick", ONE, ONE), ("pick", ONE, ONE, ONE, ONE)]:
            with self.subTest(thing):
                self.assertIs(is_tree(thing), False)

    def test_unknown_kinds(self):
        for kind in ["", "Num", "div", "hole", "gap", "slot", "put", "num ", None, 0]:
            self.assertIs(is_tree((kind, 0)), False)
            self.assertIs(is_tree((kind, ONE, ONE)), False)

    def test_a_list_is_no_tree(self):
        self.assertIs(is_tree(["num", 1]), False)
        self.assertIs(is_tree(("add", ONE, ["num", 1])), False)

    def test_forty_parts_and_one_more(self):
        self.assertIs(is_tree(FORTY), True)
        self.assertIs(is_tree(FORTY_ONE), False)

    def test_eight_deep_and_nine(self):
        self.assertIs(is_tree(chain(8)), True)
        self.assertIs(is_tree(chain(9)), False)
        self.assertIs(is_tree(("sub", ONE, chain(7))), True)
        self.assertIs(is_tree(("sub", ONE, chain(8))), False)
        self.assertIs(is_tree(("pick", ONE, chain(7), ONE)), True)
        self.assertIs(is_tree(("pick", ONE, chain(8), ONE)), False)

    def test_things_of_any_kind(self):
        for at, thing in enumerate(ODD):
            with self.subTest(at):
                self.assertIs(is_tree(thing), False)
                self.assertIs(is_tree(("add", ONE, thing)), False)
                self.assertIs(is_tree(("add", thing, ONE)), False)


class WorthTest(unittest.TestCase):
    def told(self, tree, size=10, args=NO_ARGS):
        return worth(tree, args, size=size)

    def test_num_is_its_rest(self):
        self.assertEqual(self.told(("num", 7)), 7)
        self.assertEqual(self.told(("num", 10)), 0)
        self.assertEqual(self.told(("num", 9999), size=2), 1)
        self.assertEqual(self.told(("num", 9999), size=7), 3)
        self.assertEqual(self.told(("num", 9999), size=10000), 9999)
        self.assertEqual(self.told(("num", 9999), size=9999), 0)

    def test_arg_is_counted_from_0(self):
        args = (4, 3, 2, 9)
        self.assertEqual([self.told(("arg", k), args=args) for k in range(4)], [4, 3, 2, 9])

    def test_add(self):
        self.assertEqual(self.told(("add", ("num", 3), ("num", 4))), 7)
        self.assertEqual(self.told(("add", ("num", 6), ("num", 4))), 0)
        self.assertEqual(self.told(("add", ONE, ONE), size=2), 0)
        self.assertEqual(self.told(("add", ("num", 9999), ("num", 9999)), size=10000), 9998)

    def test_sub(self):
        self.assertEqual(self.told(("sub", ("num", 7), ("num", 4))), 3)
        self.assertEqual(self.told(("sub", ("num", 4), ("num", 7))), 7)
        self.assertEqual(self.told(("sub", ZERO, ONE), size=2), 1)
        self.assertEqual(self.told(("sub", ZERO, ONE), size=10000), 9999)

    def test_mul(self):
        self.assertEqual(self.told(("mul", ("num", 3), ("num", 4))), 2)
        self.assertEqual(self.told(("mul", ("num", 3), ("num", 3)), size=2), 1)
        self.assertEqual(self.told(("mul", ("num", 9999), ("num", 9999)), size=10000), 1)

    def test_less_both_ways(self):
        self.assertEqual(self.told(("less", ("num", 3), ("num", 4))), 1)
        self.assertEqual(self.told(("less", ("num", 4), ("num", 3))), 0)
        self.assertEqual(self.told(("less", ("num", 4), ("num", 4))), 0)
        self.assertEqual(self.told(("less", ("num", 4), ("num", 14))), 0)
        self.assertEqual(self.told(("less", ("num", 10), ("num", 9))), 1)
        self.assertEqual(self.told(("less", ZERO, ONE), size=2), 1)
        self.assertEqual(self.told(("less", ("num", 9998), ("num", 9999)), size=10000), 1)

    def test_pick_both_ways(self):
        self.assertEqual(self.told(("pick", ONE, ("num", 5), ("num", 6))), 5)
        self.assertEqual(self.told(("pick", ("num", 9), ("num", 5), ("num", 6))), 5)
        self.assertEqual(self.told(("pick", ZERO, ("num", 5), ("num", 6))), 6)
        self.assertEqual(self.told(("pick", ("num", 20), ("num", 5), ("num", 6))), 6)
        self.assertEqual(self.told(("pick", ("num", 2), ("num", 1), ("num", 0)), size=2), 0)

    def test_trees_within_trees(self):
        tree = ("pick", ("less", ("arg", 0), ("arg", 1)), ("sub", ("arg", 1), ("arg", 0)),
                ("mul", ("arg", 2), ("add", ("arg", 3), ("num", 1))))
        self.assertEqual(self.told(tree, args=(2, 9, 3, 4)), 7)
        self.assertEqual(self.told(tree, args=(9, 2, 3, 4)), 5)
        self.assertEqual(self.told(tree, args=(9, 9, 3, 9)), 0)

    def test_the_largest_trees(self):
        self.assertEqual(self.told(chain(8), args=(3, 0, 0, 0)), 2)
        self.assertEqual(self.told(FORTY, size=100), 4)
        self.assertEqual(self.told(FORTY, size=16), 1)
        self.assertEqual(self.told(("sub", ("num", 9999), nested(5)), size=10000), 9983)

    def test_no_tree(self):
        for at, thing in enumerate(ODD + [FORTY_ONE, chain(9), ("num", True), ("arg", 4)]):
            with self.subTest(at):
                with self.assertRaises(NoTree):
                    worth(thing, NO_ARGS, size=10)

    def test_sizes_at_and_beyond_their_bounds(self):
        self.assertEqual(self.told(ONE, size=2), 1)
        self.assertEqual(self.told(ONE, size=10000), 1)
        for size in [1, 0, -1, -10, 10001, 10**30, True, False, None, "10", (10,), [10], object()]:
            with self.subTest(size):
                with self.assertRaises(NoSize):
                    worth(ONE, NO_ARGS, size=size)

    def test_no_args(self):
        for args in [(), (0,), (0, 0, 0), (0, 0, 0, 0, 0), [0, 0, 0, 0], None, 0, "0000", b"0000", {},
                     {0: 0, 1: 0, 2: 0, 3: 0}, range(4), (10, 0, 0, 0), (0, 10, 0, 0), (0, 0, 10, 0), (0, 0, 0, 10),
                     (-1, 0, 0, 0), (0, 0, 0, -1), (True, 0, 0, 0), (0, 0, 0, False), (0, None, 0, 0), (0, 0, "0", 0)]:
            with self.subTest(args):
                with self.assertRaises(NoArgs):
                    worth(ONE, args, size=10)

    def test_args_at_their_bounds(self):
        self.assertEqual(worth(("arg", 3), (0, 0, 0, 9), size=10), 9)
        self.assertEqual(worth(("arg", 3), (1, 1, 1, 1), size=2), 1)
        self.assertEqual(worth(("arg", 0), (9999, 0, 0, 0), size=10000), 9999)
        with self.assertRaises(NoArgs):
            worth(ONE, (0, 2, 0, 0), size=2)

    def test_which_comes_first(self):
        with self.assertRaises(NoTree):
            worth(None, None, size=None)
        with self.assertRaises(NoTree):
            worth(None, NO_ARGS, size=None)
        with self.assertRaises(NoTree):
            worth(None, None, size=10)
        with self.assertRaises(NoSize):
            worth(ONE, None, size=None)
        with self.assertRaises(NoSize):
            worth(ONE, NO_ARGS, size=1)


class PartsOfTest(unittest.TestCase):
    def test_itself_first_then_those_of_its_trees_in_order(self):
        left = ("add", ("num", 1), ("num", 2))
        right = ("sub", ("arg", 0), ("arg", 1))
        tree = ("pick", left, ("num", 3), right)
        self.assertEqual(parts_of(tree), [tree, left, ("num", 1), ("num", 2), ("num", 3), right, ("arg", 0), ("arg", 1)])

    def test_like_parts_are_told_each_time(self):
        self.assertEqual(parts_of(("mul", ONE, ONE)), [("mul", ONE, ONE), ONE, ONE])

    def test_a_leaf(self):
        self.assertEqual(parts_of(ONE), [ONE])
        self.assertEqual(parts_of(("arg", 3)), [("arg", 3)])

    def test_forty(self):
        self.assertEqual(len(parts_of(FORTY)), 40)
        self.assertEqual(parts_of(chain(8))[:3], [chain(8), chain(7), chain(6)])

    def test_the_list_is_a_new_one(self):
        tree = ("add", ONE, ZERO)
        first = parts_of(tree)
        first.clear()
        self.assertEqual(parts_of(tree), [tree, ONE, ZERO])

    def test_no_tree(self):
        for at, thing in enumerate(ODD + [FORTY_ONE, chain(9)]):
            with self.subTest(at):
                with self.assertRaises(NoTree):
                    parts_of(thing)
