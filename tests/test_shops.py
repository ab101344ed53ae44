import unittest

from piecelay.covers import length_of
from piecelay.errors import Broken, NoArgs, NoCover, NoName, NoSet, NoSize, NoPiece, NoTree, Taken
from piecelay.laying import lay
from piecelay.pieces import BASIC, failing
from piecelay.shops import Shop
from piecelay.trees import worth
from tests.made import A0, A1, A2, H0, H1, MORE, RICH, Numbers, made_args, made_tree, without
from tests.odd import ODD, nested

ONE, TWO = ("num", 1), ("num", 2)
DOUBLE = ("double", ("mul", H0, TWO), (13, 4))
LONG_DOUBLE = ("longer", ("mul", H0, TWO), (13, 4, 12, 0))
DOUBLED = ("mul", ("sub", A0, A1), TWO)
# What no name can be; of the odd things "num" might be one.
BAD_NAMES = [thing for thing in ODD if not isinstance(thing, str) or thing != "num"]
BAD_NAMES += ["A", "aB", "abcdefghi", "a1", "a b", " a", "a_", "\u00e4", "a\n", "`", "{", ("a",), ["a"], b"a"]


def standing(shop):
    """All that a shop tells of how it stands, but for its codes."""
    return (shop.pieces(), len(shop), shop.total(), shop.stale())


class ShopCase(unittest.TestCase):
    def assertRefused(self, shop, error, call, *args, **names):
        """The call is refused, and the shop stands as it stood."""
        before = standing(shop)
        with self.assertRaises(error) as caught:
            call(*args, **names)
        self.assertIs(type(caught.exception), error)
        self.assertEqual(standing(shop), before)
        return caught.exception


class MakingTest(ShopCase):
    def test_none_is_basic(self):
        for shop in [Shop(), Shop(None), Shop(some=None)]:
            self.assertEqual(shop.pieces(), BASIC)
            self.assertEqual((len(shop), shop.total(), shop.stale()), (0, 0, []))

    def test_a_set(self):
        self.assertEqual(Shop([DOUBLE]).pieces(), [DOUBLE])
        self.assertEqual(Shop(some=RICH).pieces(), RICH)
        self.assertEqual(Shop(RICH[::-1]).pieces(), RICH[::-1])

    def test_no_set(self):
        for at, thing in enumerate(ODD + [tuple(BASIC), RICH + [LONG_DOUBLE], BASIC + BASIC[:1], [], [None], DOUBLE]):
            if thing is not None:
                with self.subTest(at):
                    with self.assertRaises(NoSet):
                        Shop(thing)

    def test_only_pieces_that_are_put_in_are_tried(self):
        wrong = ("wrong", ("gap", 0, 9), (1, 0))
        shop = Shop([wrong])
        self.assertEqual(shop.pieces(), [wrong])
        self.assertEqual(shop.lay("a", ONE), [1, 0, 0])
        self.assertEqual(shop.run("a", (0, 0, 0, 0), size=5), 0)

    def test_the_list_that_is_handed_in_is_not_kept(self):
        some = list(BASIC)
        shop = Shop(some)
        some.clear()
        self.assertEqual(shop.pieces(), BASIC)
        other = list(BASIC)
        shop = Shop(other)
        shop.put(DOUBLE)
        shop.drop("one")
        self.assertEqual(other, BASIC)

    def test_basic_stays_as_it_is(self):
        before = list(BASIC)
        shop = Shop()
        shop.put(DOUBLE)
        shop.drop("one")
        shop.pieces().clear()
        self.assertEqual(BASIC, before)
        self.assertEqual(Shop().pieces(), before)


class PutTest(ShopCase):
    def test_behind_the_others(self):
        shop = Shop()
        self.assertIsNone(shop.put(DOUBLE))
        self.assertEqual(shop.pieces(), BASIC + [DOUBLE])
        shop.put(MORE[1])
        self.assertEqual(shop.pieces(), BASIC + [DOUBLE, MORE[1]])

    def test_what_is_laid_behind_it_uses_it(self):
        shop = Shop()
        self.assertEqual(shop.lay("a", DOUBLED), [3, 0, 3, 1, 5, 1, 2, 6, 0])
        shop.put(DOUBLE)
        self.assertEqual(shop.lay("b", DOUBLED), [3, 0, 3, 1, 5, 13, 4, 0])

    def test_no_piece(self):
        shop = Shop()
        shop.lay("a", DOUBLED)
        wrong = [("pick", ("gap", 0, 9), (1, ("low", 0))), list(DOUBLE), ("a", H0, (4,)), ("add", H0, H1)]
        for at, thing in enumerate(ODD + wrong):
            with self.subTest(at):
                self.assertRefused(shop, NoPiece, shop.put, thing)

    def test_taken(self):
        shop = Shop()
        for piece in [BASIC[0], BASIC[7], ("one", ("mul", H0, TWO), (13, 4))]:
            self.assertRefused(shop, Taken, shop.put, piece)
        shop.put(DOUBLE)
        self.assertRefused(shop, Taken, shop.put, DOUBLE)

    def test_a_name_that_was_laid_is_none_of_a_piece(self):
        shop = Shop()
        shop.lay("double", ONE)
        shop.put(DOUBLE)
        shop.lay("add", ONE)
        self.assertEqual(len(shop), 2)
        self.assertRefused(shop, NoName, shop.drop, "a")
        self.assertRefused(shop, NoName, shop.code, "one")

    def test_16_pieces_and_one_more(self):
        shop = Shop()
        for piece in MORE:
            shop.put(piece)
        self.assertEqual(shop.pieces(), RICH)
        self.assertRefused(shop, NoSet, shop.put, LONG_DOUBLE)
        shop.drop("one")
        shop.put(LONG_DOUBLE)
        self.assertEqual(shop.pieces(), RICH[1:] + [LONG_DOUBLE])

    def test_broken_with_the_first_trial(self):
        shop = Shop()
        for piece, trial in [(("wrong", ("add", H0, H1), (5,)), ((0, 1), (), (), (0, 0, 0, 0))),
                             (("wrong", ("gap", 0, 9999), (1, ("low", 0))), ((), (100,), (), (0, 0, 0, 0))),
                             (("wrong", ("slot", 0), (3, 0)), ((), (), (1,), (0, 1, 0, 0))),
                             (("wrong", ("mul", H0, TWO), (4,)), ((0,), (), (), (0, 0, 0, 0)))]:
            with self.subTest(piece):
                error = self.assertRefused(shop, Broken, shop.put, piece)
                self.assertEqual(error.trial, trial)
                self.assertEqual(error.trial, failing(piece, size=3))

    def test_the_contract_is_for_the_size_3(self):
        two = ("second", ("add", H0, H1), (5,))
        self.assertIsNone(failing(two, size=2))
        shop = Shop()
        self.assertRefused(shop, Broken, shop.put, two)
        three = ("third", ("num", 3), (1, 0))
        self.assertIsNone(failing(three, size=3))
        self.assertIsNotNone(failing(three, size=2))
        self.assertIsNotNone(failing(three, size=4))
        self.assertIsNotNone(failing(three, size=5))
        shop.put(three)
        self.assertEqual(shop.pieces(), BASIC + [three])

    def test_which_comes_first(self):
        wrong = ("add", H0, H1), (5,)
        shop = Shop(RICH)
        self.assertRefused(shop, NoPiece, shop.put, ("one", H0, (5,)))
        self.assertRefused(shop, Taken, shop.put, ("one", *wrong))
        self.assertRefused(shop, NoSet, shop.put, ("wrong", *wrong))
        shop.drop("one")
        self.assertRefused(shop, Taken, shop.put, ("two", *wrong))
        self.assertRefused(shop, Broken, shop.put, ("wrong", *wrong))


class DropTest(ShopCase):
    def test_the_others_stay_as_they_came(self):
        shop = Shop()
        self.assertIsNone(shop.drop("slot"))
        self.assertEqual(shop.pieces(), without("slot"))
        shop.drop("more")
        shop.drop("one")
        self.assertEqual(shop.pieces(), without("slot", "more", "one"))
        shop.put(BASIC[0])
        self.assertEqual(shop.pieces(), without("slot", "more", "one") + [BASIC[0]])

    def test_what_is_laid_behind_it_does_not_use_it(self):
        shop = Shop()
        shop.drop("one")
        self.assertEqual(shop.lay("a", ONE), [2, 1, 0, 0])
        shop.drop("two")
        self.assertRefused(shop, NoCover, shop.lay, "a", ONE)

    def test_no_name(self):
        shop = Shop()
        shop.lay("a", ONE)
        for at, thing in enumerate(BAD_NAMES + ["num", "a", "on", "onee", "pick", "One", BASIC[0]]):
            with self.subTest(at):
                self.assertRefused(shop, NoName, shop.drop, thing)
        shop.drop("one")
        self.assertRefused(shop, NoName, shop.drop, "one")

    def test_the_last_one(self):
        shop = Shop([BASIC[0], BASIC[1]])
        shop.drop("one")
        self.assertRefused(shop, NoName, shop.drop, "one")
        self.assertRefused(shop, NoSet, shop.drop, "two")
        self.assertEqual(shop.pieces(), [BASIC[1]])
        shop.put(BASIC[0])
        shop.drop("two")
        self.assertEqual(shop.pieces(), [BASIC[0]])


class LayTest(ShopCase):
    def test_its_code(self):
        numbers = Numbers(41)
        for some in [BASIC, RICH]:
            shop = Shop(some)
            for _ in range(20):
                tree = made_tree(numbers, 4)
                code = shop.lay("a", tree)
                self.assertEqual(code, lay(tree, some))
                self.assertEqual((shop.code("a"), shop.tree("a")), (code, tree))
            self.assertEqual(len(shop), 1)

    def test_names(self):
        shop = Shop()
        for name in ["a", "z", "abcdefgh", "pick", "one", "num"]:
            shop.lay(name, ONE)
        self.assertEqual(len(shop), 6)

    def test_no_name(self):
        shop = Shop()
        for at, thing in enumerate(BAD_NAMES):
            with self.subTest(at):
                self.assertRefused(shop, NoName, shop.lay, thing, ONE)

    def test_no_tree(self):
        shop = Shop()
        shop.lay("a", TWO)
        for at, thing in enumerate(ODD + [("num", True), ("arg", 4), nested(6), H0, ("call", 0)]):
            with self.subTest(at):
                self.assertRefused(shop, NoTree, shop.lay, "a", thing)
                self.assertRefused(shop, NoTree, shop.lay, "b", thing)
        self.assertEqual((shop.code("a"), shop.tree("a")), ([1, 2, 0], TWO))

    def test_no_cover(self):
        shop = Shop(without("slot"))
        shop.lay("a", TWO)
        for name in ["a", "b"]:
            self.assertRefused(shop, NoCover, shop.lay, name, ("sub", ONE, A0))
        self.assertEqual((shop.code("a"), shop.tree("a")), ([1, 2, 0], TWO))
        self.assertRefused(shop, NoName, shop.code, "b")

    def test_which_comes_first(self):
        shop = Shop(without("slot"))
        self.assertRefused(shop, NoName, shop.lay, None, None)
        self.assertRefused(shop, NoName, shop.lay, "", A0)
        self.assertRefused(shop, NoTree, shop.lay, "a", ("sub", A0, None))

    def test_a_name_that_was_laid_is_laid_anew(self):
        shop = Shop()
        shop.lay("a", ("num", 100))
        shop.lay("b", ONE)
        self.assertEqual((len(shop), shop.total()), (2, 7))
        self.assertEqual(shop.lay("a", A1), [3, 1, 0])
        self.assertEqual((len(shop), shop.total()), (2, 6))
        self.assertEqual((shop.code("a"), shop.tree("a")), ([3, 1, 0], A1))
        self.assertEqual((shop.code("b"), shop.tree("b")), ([1, 1, 0], ONE))


class ToldTest(ShopCase):
    def test_no_name(self):
        shop = Shop()
        shop.lay("b", ONE)
        for at, thing in enumerate(BAD_NAMES + ["num", "a", "one", "bb", "B"]):
            with self.subTest(at):
                self.assertRefused(shop, NoName, shop.code, thing)
                self.assertRefused(shop, NoName, shop.tree, thing)
                self.assertRefused(shop, NoName, shop.run, thing, (0, 0, 0, 0), size=3)

    def test_run(self):
        numbers = Numbers(43)
        shop = Shop(RICH)
        for _ in range(40):
            tree = made_tree(numbers, 4)
            shop.lay("a", tree)
            for size in [2, 3, 10, 10000]:
                args = made_args(numbers, size)
                self.assertEqual(shop.run("a", args, size=size), worth(tree, args, size=size))

    def test_run_by_the_name(self):
        shop = Shop()
        shop.lay("a", A0)
        shop.lay("b", A1)
        self.assertEqual(shop.run("a", (3, 4, 0, 0), size=5), 3)
        self.assertEqual(shop.run("b", (3, 4, 0, 0), size=5), 4)

    def test_run_refuses(self):
        shop = Shop()
        shop.lay("a", A0)
        for size in [1, 0, -1, 10001, True, None, "3", [3]]:
            self.assertRefused(shop, NoSize, shop.run, "a", (0, 0, 0, 0), size=size)
        for args in [None, (), (0, 0, 0), (0, 0, 0, 0, 0), [0, 0, 0, 0], (0, 0, 0, 3), (0, 0, -1, 0),
                     (0, True, 0, 0), ("0", 0, 0, 0)]:
            self.assertRefused(shop, NoArgs, shop.run, "a", args, size=3)
        self.assertRefused(shop, NoName, shop.run, "b", None, size=None)
        self.assertRefused(shop, NoName, shop.run, None, None, size=None)
        self.assertRefused(shop, NoSize, shop.run, "a", None, size=None)
        self.assertEqual(shop.run("a", (2, 0, 0, 0), size=3), 2)

    def test_total_and_len(self):
        shop = Shop()
        self.assertEqual((len(shop), shop.total()), (0, 0))
        shop.lay("a", ONE)
        self.assertEqual((len(shop), shop.total()), (1, 3))
        shop.lay("b", ("num", 100))
        self.assertEqual((len(shop), shop.total()), (2, 7))
        shop.drop("one")
        self.assertEqual((len(shop), shop.total()), (2, 7))
        shop.lay("a", ONE)
        self.assertEqual((len(shop), shop.total()), (2, 8))

    def test_lists_that_were_told_are_told_again_as_they_were(self):
        shop = Shop()
        shop.lay("a", ONE).append(99)
        shop.lay("a", DOUBLED).clear()
        right = [3, 0, 3, 1, 5, 1, 2, 6, 0]
        self.assertEqual(shop.code("a"), right)
        shop.code("a")[0] = 7
        self.assertEqual(shop.code("a"), right)
        self.assertEqual(shop.total(), 9)
        self.assertEqual(shop.run("a", (2, 1, 0, 0), size=5), 2)
        shop.pieces().clear()
        shop.pieces().append(None)
        self.assertEqual(shop.pieces(), BASIC)
        shop.put(DOUBLE)
        self.assertEqual(shop.stale(), ["a"])
        shop.stale().append("b")
        self.assertEqual(shop.stale(), ["a"])

    def test_codes_are_lists_and_trees_are_tuples(self):
        shop = Shop()
        self.assertIs(type(shop.lay("a", DOUBLED)), list)
        self.assertIs(type(shop.code("a")), list)
        self.assertIs(type(shop.pieces()), list)
        self.assertIs(type(shop.stale()), list)
        self.assertEqual(shop.tree("a"), DOUBLED)


class StaleTest(ShopCase):
    def test_codes_stay_when_pieces_come(self):
        shop = Shop()
        code = shop.lay("a", DOUBLED)
        self.assertEqual(shop.stale(), [])
        shop.put(DOUBLE)
        self.assertEqual((shop.code("a"), shop.tree("a"), shop.total()), (code, DOUBLED, 9))
        self.assertEqual(shop.run("a", (2, 1, 0, 0), size=5), 2)
        self.assertEqual(shop.stale(), ["a"])
        self.assertEqual(shop.lay("a", DOUBLED), [3, 0, 3, 1, 5, 13, 4, 0])
        self.assertEqual(shop.code("a"), [3, 0, 3, 1, 5, 13, 4, 0])
        self.assertEqual(shop.stale(), [])

    def test_codes_stay_when_pieces_go(self):
        shop = Shop()
        code = shop.lay("a", ONE)
        shop.drop("one")
        self.assertEqual((shop.code("a"), shop.tree("a")), (code, ONE))
        self.assertEqual(shop.stale(), ["a"])
        shop.drop("two")
        self.assertEqual(shop.code("a"), code)
        self.assertEqual(shop.run("a", (0, 0, 0, 0), size=5), 1)
        self.assertEqual(shop.stale(), ["a"])
        self.assertRefused(shop, NoCover, shop.lay, "a", ONE)
        shop.put(BASIC[0])
        self.assertEqual(shop.stale(), [])

    def test_what_can_not_be_covered_any_more(self):
        shop = Shop()
        shop.lay("c", A0)
        shop.lay("a", ("sub", ONE, A0))
        shop.lay("b", ONE)
        shop.drop("slot")
        self.assertEqual(shop.stale(), ["a", "c"])

    def test_rising_whatever_came_first(self):
        shop = Shop()
        for name in ["m", "zz", "a", "b", "ab", "z", "aa"]:
            shop.lay(name, TWO if name == "b" else DOUBLED)
        shop.put(DOUBLE)
        self.assertEqual(shop.stale(), ["a", "aa", "ab", "m", "z", "zz"])
        shop.lay("ab", DOUBLED)
        self.assertEqual(shop.stale(), ["a", "aa", "m", "z", "zz"])

    def test_another_covering_of_the_same_length_is_not_stale(self):
        shop = Shop()
        shop.lay("a", ONE)
        shop.put(("uno", ONE, (1, 1)))
        shop.drop("one")
        self.assertEqual(length_of(ONE, shop.pieces()), 2)
        self.assertEqual(shop.stale(), [])

    def test_shorter_and_longer(self):
        shop = Shop()
        shop.lay("plain", DOUBLED)
        shop.put(DOUBLE)
        shop.lay("short", DOUBLED)
        self.assertEqual(shop.stale(), ["plain"])
        shop.drop("double")
        self.assertEqual(shop.stale(), ["short"])


class TwinTest(ShopCase):
    def setUp(self):
        self.shop = Shop(BASIC + MORE[1:2])
        self.shop.lay("a", DOUBLED)
        self.shop.lay("b", ONE)
        self.shop.put(DOUBLE)

    def test_it_stands_just_so(self):
        twin = self.shop.twin()
        self.assertIsInstance(twin, Shop)
        self.assertIsNot(twin, self.shop)
        self.assertEqual(standing(twin), standing(self.shop))
        self.assertEqual(standing(twin), (BASIC + [MORE[1], DOUBLE], 2, 12, ["a"]))
        for name in ["a", "b"]:
            self.assertEqual((twin.code(name), twin.tree(name)), (self.shop.code(name), self.shop.tree(name)))

    def test_what_the_one_does_is_none_of_the_others(self):
        for turned in [False, True]:
            shop, twin = self.shop.twin(), self.shop.twin()
            one, other = (twin, shop) if turned else (shop, twin)
            before = standing(other)
            one.lay("a", TWO)
            one.lay("c", TWO)
            one.drop("one")
            one.put(LONG_DOUBLE)
            one.code("b").clear()
            self.assertEqual(standing(other), before)
            self.assertEqual(other.code("a"), [3, 0, 3, 1, 5, 1, 2, 6, 0])
            self.assertEqual(other.tree("a"), DOUBLED)
            self.assertRefused(other, NoName, other.code, "c")
            self.assertEqual(one.code("a"), [1, 2, 0])
            self.assertEqual(one.code("b"), [1, 1, 0])
            self.assertEqual((len(one), one.total()), (3, 9))

    def test_a_twin_of_the_shop_itself_goes_its_own_way(self):
        twin = self.shop.twin()
        before = standing(twin)
        self.shop.drop("double")
        self.shop.lay("b", A2)
        self.assertEqual(standing(twin), before)
        before = standing(self.shop)
        twin.drop("inc")
        twin.lay("z", A2)
        self.assertEqual(standing(self.shop), before)

    def test_a_twin_of_a_new_shop(self):
        twin = Shop().twin()
        self.assertEqual(standing(twin), (BASIC, 0, 0, []))
        twin.lay("a", ONE)
        self.assertEqual(len(twin), 1)

    def test_equal_calls_give_equal_answers(self):
        first, second = Shop(), Shop()
        for shop in [first, second]:
            shop.lay("a", DOUBLED)
            shop.put(DOUBLE)
            shop.lay("b", DOUBLED)
            shop.drop("one")
        self.assertEqual(standing(first), standing(second))
        self.assertEqual([first.code("a"), first.code("b")], [second.code("a"), second.code("b")])


class ManyCallsTest(ShopCase):
    def test_against_a_plain_record(self):
        """A shop through many calls, beside a list of pieces and a dict of what was laid."""
        numbers = Numbers(77)
        shop, pieces, made = Shop(), list(BASIC), {}
        pool = RICH + [LONG_DOUBLE, ("uno", ONE, (1, 1)), ("broken", ("add", H0, H1), (6,))]
        for _ in range(600):
            deed = numbers.below(4)
            if deed == 0:
                self.put_one(shop, pieces, numbers.one_of(pool))
            elif deed == 1:
                self.drop_one(shop, pieces, numbers.one_of(pool)[0])
            else:
                self.lay_one(shop, pieces, made, numbers.one_of("abcdef"), made_tree(numbers, 3))
            self.assertEqual(shop.pieces(), pieces)
            self.assertEqual((len(shop), shop.total()), (len(made), sum(len(code) for _, code in made.values())))
            for name, (tree, code) in made.items():
                self.assertEqual((shop.tree(name), shop.code(name)), (tree, code))
            self.assertEqual(shop.stale(), sorted(name for name in made if self.is_old(pieces, *made[name])))

    def is_old(self, pieces, tree, code):
        try:
            return len(lay(tree, pieces)) != len(code)
        except NoCover:
            return True

    def put_one(self, shop, pieces, piece):
        if piece[0] in [one[0] for one in pieces]:
            self.assertRefused(shop, Taken, shop.put, piece)
        elif len(pieces) == 16:
            self.assertRefused(shop, NoSet, shop.put, piece)
        elif piece[0] == "broken":
            self.assertEqual(self.assertRefused(shop, Broken, shop.put, piece).trial, ((0, 1), (), (), (0, 0, 0, 0)))
        else:
            shop.put(piece)
            pieces.append(piece)

    def drop_one(self, shop, pieces, name):
        names = [one[0] for one in pieces]
        if name not in names:
            self.assertRefused(shop, NoName, shop.drop, name)
        elif len(pieces) == 1:
            self.assertRefused(shop, NoSet, shop.drop, name)
        else:
            shop.drop(name)
            del pieces[names.index(name)]

    def lay_one(self, shop, pieces, made, name, tree):
        try:
            code = lay(tree, pieces)
        except NoCover:
            self.assertRefused(shop, NoCover, shop.lay, name, tree)
            return
        self.assertEqual(shop.lay(name, tree), code)
        made[name] = (tree, code)
