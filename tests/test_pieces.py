"""What pieces and sets are, BASIC, and where pieces fit."""

import unittest

from piecelay.errors import NoPiece, NoTree
from piecelay.pieces import BASIC, fits, is_piece, is_set
from tests.odd import ODD, nested

H0, H1 = ("hole", 0), ("hole", 1)
G0, G1 = ("gap", 0, 99), ("gap", 1, 9999)
S0, S1 = ("slot", 0), ("slot", 1)
ADD = ("add", ("add", H0, H1), (4,))


def with_pattern(pattern, cells=(1, 0)):
    return ("piece", pattern, cells)


def with_cells(*cells):
    return ("piece", ("add", ("sub", G0, G1), ("mul", S0, S1)), tuple(cells))


class PatternsTest(unittest.TestCase):
    def assertPatterns(self, right, patterns):
        for at, pattern in enumerate(patterns):
            with self.subTest(at):
                self.assertIs(is_piece(with_pattern(pattern)), right)

    def test_patterns_of_each_kind(self):
        self.assertPatterns(True, [("num", 0), ("num", 9999), G0, S0, ("add", H0, H1), ("sub", H0, G0), ("mul", S0, S1),
                                   ("less", ("num", 1), H0), ("add", G0, G1), ("sub", ("num", 1), ("num", 2))])

    def test_patterns_of_3_deep_and_4(self):
        three = ("add", ("sub", H0, G0), ("mul", H1, S0))
        four = ("add", ("sub", ("mul", H0, H1), G0), S0)
        self.assertPatterns(True, [three, ("less", S0, ("add", H0, H1)), ("add", ("add", H0, H1), ("add", G0, G1))])
        self.assertPatterns(False, [four, ("add", S0, ("add", G0, ("sub", H0, H1))), nested(4), nested(9)])

    def test_itself_it_is_no_hole(self):
        self.assertPatterns(False, [H0, H1])

    def test_neither_arg_nor_pick(self):
        self.assertPatterns(False, [("arg", 0), ("add", H0, ("arg", 0)), ("pick", H0, H1, G0),
                                    ("add", G0, ("pick", H0, H1, S0))])

    def test_rightly_numbered(self):
        self.assertPatterns(True, [("add", ("add", H0, G0), ("add", H1, G1)), ("add", ("add", S0, G0), ("add", G1, S1)),
                                   ("add", G0, H0), ("sub", ("less", H0, ("num", 3)), H1)])

    def test_wrongly_numbered(self):
        self.assertPatterns(False, [("add", H1, H0), ("add", H0, H0), ("add", H1, H1), ("add", H1, ("num", 0)),
                                    S1, G1, ("add", S1, S0), ("add", S0, S0), ("add", G1, G0), ("add", G0, G0),
                                    ("add", ("add", G0, H1), H0), ("add", ("add", S0, G1), ("add", G0, H0))])

    def test_more_than_two_of_each(self):
        self.assertPatterns(False, [("add", ("add", H0, H1), ("hole", 2)), ("add", ("add", S0, S1), ("slot", 2)),
                                    ("add", ("add", G0, G1), ("gap", 2, 5)), ("add", ("add", H0, H1), H1)])

    def test_wrong_numbers(self):
        for number in [-1, 2, True, False, None, "0", (0,), 10**30]:
            self.assertPatterns(False, [("add", ("hole", number), ("num", 1)), ("gap", number, 5), ("slot", number)])
        self.assertPatterns(False, [("add", H0, ("hole", True)), ("add", G0, ("gap", True, 5)), ("add", S0, ("slot", True))])

    def test_most_at_and_beyond_its_bounds(self):
        self.assertPatterns(True, [("gap", 0, 0), ("gap", 0, 9999)])
        self.assertPatterns(False, [("gap", 0, -1), ("gap", 0, 10000), ("gap", 0, True), ("gap", 0, False),
                                    ("gap", 0, None), ("gap", 0, "9")])

    def test_wrong_lengths(self):
        self.assertPatterns(False, [("gap", 0), ("gap", 0, 5, 5), ("gap",), ("slot", 0, 0), ("slot",), ("add", H0),
                                    ("add", ("hole",), S0), ("add", ("hole", 0, 0), S0), ("add", H0, H1, S0), ("num",),
                                    ("num", 1, 1)])

    def test_nums_in_patterns(self):
        self.assertPatterns(False, [("num", -1), ("num", 10000), ("num", True), ("add", H0, ("num", False)),
                                    ("add", ("num", None), H0)])

    def test_lists_and_unknown_kinds(self):
        self.assertPatterns(False, [["gap", 0, 99], ("add", ["hole", 0], S0), ("Gap", 0, 99), ("low", 0), ("div", H0, H1)])

    def test_things_of_any_kind(self):
        self.assertPatterns(False, ODD)
        self.assertPatterns(False, [("add", thing, H0) for thing in ODD])
        self.assertPatterns(False, [("add", H0, thing) for thing in ODD])


class CellsTest(unittest.TestCase):
    def assertCells(self, right, rows):
        for cells in rows:
            with self.subTest(cells):
                self.assertIs(is_piece(with_cells(*cells)), right)

    def test_each_instruction_that_may_stand_there(self):
        self.assertCells(True, [(1, 5), (2, 5, 6), (3, 0), (4,), (5,), (6,), (7,), (12, 5), (13,), (14,)])

    def test_jumps_calls_back_and_end_may_not(self):
        self.assertCells(False, [(0,), (8, 0), (9, 0, 0), (10, 0), (11, 0, 0), (15, 0, 0), (16,),
                                 (1, 5, 0), (1, 5, 8, 0), (1, 5, 9, 0, 0), (1, 5, 10, 0), (1, 5, 11, 0, 0),
                                 (1, 5, 15, 0, 0), (1, 5, 16)])

    def test_cells_that_tell_no_instruction(self):
        self.assertCells(False, [(17,), (99,), (4, 17), (1, 1, 50)])

    def test_the_cells_behind_may_be_any_number(self):
        self.assertCells(True, [(1, 0), (1, 99), (2, 99, 99), (3, 99), (12, 99), (1, 16), (2, 0, 8)])

    def test_instructions_cut_off(self):
        self.assertCells(False, [(1,), (2,), (2, 1), (3,), (12,), (4, 1), (4, 2, 0), (1, 2, 12)])

    def test_fillings(self):
        self.assertCells(True, [(1, ("low", 0)), (1, ("high", 0)), (1, ("low", 1)), (1, ("high", 1)), (3, ("arg", 0)),
                                (3, ("arg", 1)), (2, ("low", 0), ("high", 0)), (2, ("low", 1), 5), (2, 5, ("high", 1)),
                                (12, ("low", 1)), (1, ("arg", 0)), (3, ("low", 0))])

    def test_a_filling_tells_no_instruction(self):
        self.assertCells(False, [(("low", 0),), (("arg", 0),), (("high", 0), 4), (1, 5, ("low", 0)), (4, ("low", 0)),
                                 (1, ("low", 0), ("low", 0))])

    def test_fillings_of_what_is_not_there(self):
        self.assertCells(False, [(1, ("low", 2)), (1, ("high", 2)), (3, ("arg", 2)), (1, ("low", -1)), (3, ("arg", -1))])
        for pattern, fillings in [(("num", 1), ["low", "high", "arg"]), (G0, ["arg"]), (S0, ["low", "high"])]:
            for filling in fillings:
                self.assertIs(is_piece(with_pattern(pattern, (1, (filling, 0)))), False)
        self.assertIs(is_piece(with_pattern(G0, (1, ("low", 1)))), False)
        self.assertIs(is_piece(with_pattern(S0, (3, ("arg", 1)))), False)

    def test_fillings_with_one_thing_that_is_not_right(self):
        self.assertCells(False, [(1, ("low", True)), (1, ("high", False)), (3, ("arg", True)), (1, ("low", None)),
                                 (1, ("low",)), (1, ("low", 0, 0)), (1, ("Low", 0)), (1, ("gap", 0)), (1, ["low", 0]),
                                 (1, ("hole", 0)), (1, (0, 0)), (3, ("slot", 0))])

    def test_cells_with_one_number_that_is_not_right(self):
        for wrong in [-1, 100, True, False, None, "1", 10**30]:
            self.assertCells(False, [(1, wrong), (2, wrong, 0), (2, 0, wrong), (4, 4, wrong), (wrong,), (wrong, 4)])

    def test_1_to_12_cells(self):
        self.assertCells(True, [(4,), (4,) * 12, (1, 1) * 6])
        self.assertCells(False, [(), (4,) * 13, (1, 1) * 6 + (4,)])

    def test_cells_are_a_tuple(self):
        for cells in [[4], None, 4, "4", b"4", {4: 4}, {4}, range(4, 6)]:
            self.assertIs(is_piece(("piece", ("add", H0, H1), cells)), False)

    def test_things_of_any_kind(self):
        for at, thing in enumerate(ODD):
            with self.subTest(at):
                self.assertIs(is_piece(("piece", G0, thing)), False)
                self.assertIs(is_piece(("piece", G0, (1, (thing, 0)))), False)
                self.assertIs(is_piece(("piece", G0, (1, ("arg", thing)))), False)


class IsPieceTest(unittest.TestCase):
    def test_names(self):
        for name in ["a", "z", "abcdefgh", "hole", "end"]:
            self.assertIs(is_piece((name, G0, (1, 0))), True)
        for name in ["", "abcdefghi", "A", "aB", "a1", "a b", "a_", "\u00e4", "a\n", "`", "{", None, 1, b"a", ("a",), True]:
            with self.subTest(name):
                self.assertIs(is_piece((name, G0, (1, 0))), False)

    def test_no_piece_is_called_pick(self):
        self.assertIs(is_piece(("pick", G0, (1, 0))), False)
        self.assertIs(is_piece(("picks", G0, (1, 0))), True)

    def test_a_tuple_of_three(self):
        for thing in [list(ADD), ADD[:2], ADD + (0,), dict(enumerate(ADD)), (ADD,)]:
            self.assertIs(is_piece(thing), False)

    def test_things_of_any_kind(self):
        for at, thing in enumerate(ODD):
            with self.subTest(at):
                self.assertIs(is_piece(thing), False)
                self.assertIs(is_piece((thing, G0, (1, 0))), thing == "num" if isinstance(thing, str) else False)


class IsSetTest(unittest.TestCase):
    def many(self, count):
        return [("abcdefghijklmnopq"[at], G0, (1, 0)) for at in range(count)]

    def test_1_to_16_pieces(self):
        self.assertIs(is_set([ADD]), True)
        self.assertIs(is_set(self.many(16)), True)
        self.assertIs(is_set([]), False)
        self.assertIs(is_set(self.many(17)), False)

    def test_like_names(self):
        self.assertIs(is_set([ADD, ADD]), False)
        self.assertIs(is_set(self.many(3) + [("a", ("add", H0, H1), (4,))]), False)
        self.assertIs(is_set([("a", G0, (1, 0)), ("b", G0, (1, 0))]), True)

    def test_one_that_is_no_piece(self):
        self.assertIs(is_set([ADD, None]), False)
        self.assertIs(is_set([("a", H0, (4,)), ADD]), False)
        self.assertIs(is_set([ADD, ("pick", G0, (1, 0))]), False)

    def test_a_list(self):
        for thing in [(ADD,), {ADD}, {"add": ADD}, ADD]:
            self.assertIs(is_set(thing), False)

    def test_things_of_any_kind(self):
        for at, thing in enumerate(ODD):
            with self.subTest(at):
                self.assertIs(is_set(thing), False)
                self.assertIs(is_set([ADD, thing]), False)


class BasicTest(unittest.TestCase):
    def test_it_is_a_set(self):
        self.assertIs(is_set(BASIC), True)
        self.assertIsInstance(BASIC, list)

    def test_each_piece(self):
        self.assertEqual(BASIC, [
            ("one", ("gap", 0, 99), (1, ("low", 0))),
            ("two", ("gap", 0, 9999), (2, ("low", 0), ("high", 0))),
            ("slot", ("slot", 0), (3, ("arg", 0))),
            ("add", ("add", ("hole", 0), ("hole", 1)), (4,)),
            ("sub", ("sub", ("hole", 0), ("hole", 1)), (5,)),
            ("mul", ("mul", ("hole", 0), ("hole", 1)), (6,)),
            ("less", ("less", ("hole", 0), ("hole", 1)), (7,)),
            ("more", ("add", ("hole", 0), ("gap", 0, 99)), (12, ("low", 0))),
        ])


class FitsTest(unittest.TestCase):
    def test_holes_stand_for_any_tree(self):
        for left in [("num", 9999), ("arg", 3), nested(4), ("pick", ("num", 1), ("num", 2), ("num", 3))]:
            self.assertEqual(fits(ADD, ("add", left, ("arg", 0))), ((left, ("arg", 0)), (), ()))

    def test_gaps_stand_for_nums_up_to_their_most(self):
        piece = with_pattern(("gap", 0, 99))
        self.assertEqual(fits(piece, ("num", 0)), ((), (0,), ()))
        self.assertEqual(fits(piece, ("num", 99)), ((), (99,), ()))
        self.assertIsNone(fits(piece, ("num", 100)))
        self.assertIsNone(fits(piece, ("arg", 0)))
        self.assertIsNone(fits(piece, nested(2)))
        self.assertEqual(fits(with_pattern(("gap", 0, 0)), ("num", 0)), ((), (0,), ()))
        self.assertIsNone(fits(with_pattern(("gap", 0, 0)), ("num", 1)))
        self.assertEqual(fits(with_pattern(("gap", 0, 9999)), ("num", 9999)), ((), (9999,), ()))

    def test_slots_stand_for_args(self):
        piece = with_pattern(S0)
        self.assertEqual([fits(piece, ("arg", k)) for k in range(4)], [((), (), (k,)) for k in range(4)])
        self.assertIsNone(fits(piece, ("num", 0)))
        self.assertIsNone(fits(piece, nested(2)))

    def test_nums_stand_for_themselves(self):
        piece = with_pattern(("num", 5))
        self.assertEqual(fits(piece, ("num", 5)), ((), (), ()))
        self.assertIsNone(fits(piece, ("num", 4)))
        self.assertIsNone(fits(with_pattern(("num", 1)), ("arg", 1)))
        self.assertIsNone(fits(piece, nested(2)))

    def test_each_kind_fits_its_own_alone(self):
        kinds = ["add", "sub", "mul", "less"]
        for kind in kinds:
            for other in kinds:
                found = fits(with_pattern((kind, H0, H1)), (other, ("num", 1), ("num", 2)))
                self.assertEqual(found, ((("num", 1), ("num", 2)), (), ()) if kind == other else None)
            self.assertIsNone(fits(with_pattern((kind, H0, H1)), ("pick", ("num", 1), ("num", 2), ("num", 3))))
            self.assertIsNone(fits(with_pattern((kind, H0, H1)), ("num", 1)))

    def test_all_together_from_left_to_right(self):
        piece = with_pattern(("add", ("sub", H0, G0), ("mul", S0, H1)))
        tree = ("add", ("sub", nested(3), ("num", 7)), ("mul", ("arg", 2), ("arg", 1)))
        self.assertEqual(fits(piece, tree), ((nested(3), ("arg", 1)), (7,), (2,)))
        piece = with_pattern(("add", ("sub", G0, G1), ("mul", S0, S1)))
        tree = ("add", ("sub", ("num", 9), ("num", 1000)), ("mul", ("arg", 3), ("arg", 3)))
        self.assertEqual(fits(piece, tree), ((), (9, 1000), (3, 3)))

    def test_one_part_that_does_not_fit(self):
        piece = with_pattern(("add", ("sub", H0, G0), ("mul", S0, ("num", 3))))
        right = ("add", ("sub", ("arg", 0), ("num", 7)), ("mul", ("arg", 2), ("num", 3)))
        self.assertEqual(fits(piece, right), ((("arg", 0),), (7,), (2,)))
        for wrong in [("sub", ("sub", ("arg", 0), ("num", 7)), ("mul", ("arg", 2), ("num", 3))),
                      ("add", ("add", ("arg", 0), ("num", 7)), ("mul", ("arg", 2), ("num", 3))),
                      ("add", ("sub", ("arg", 0), ("num", 100)), ("mul", ("arg", 2), ("num", 3))),
                      ("add", ("sub", ("arg", 0), ("num", 7)), ("mul", ("num", 2), ("num", 3))),
                      ("add", ("sub", ("arg", 0), ("num", 7)), ("mul", ("arg", 2), ("num", 4))),
                      ("add", ("mul", ("arg", 2), ("num", 3)), ("sub", ("arg", 0), ("num", 7)))]:
            with self.subTest(wrong):
                self.assertIsNone(fits(piece, wrong))

    def test_more_fits_a_num_at_the_right_alone(self):
        more = BASIC[7]
        self.assertEqual(fits(more, ("add", ("arg", 1), ("num", 99))), ((("arg", 1),), (99,), ()))
        self.assertIsNone(fits(more, ("add", ("arg", 1), ("num", 100))))
        self.assertIsNone(fits(more, ("add", ("num", 9), ("arg", 1))))

    def test_refusals_and_which_comes_first(self):
        for at, thing in enumerate(ODD + [with_pattern(H0)]):
            with self.subTest(at):
                with self.assertRaises(NoPiece):
                    fits(thing, ("num", 1))
                with self.assertRaises(NoPiece):
                    fits(thing, None)
        for at, thing in enumerate(ODD + [("num", True), ("arg", 4), nested(6), H0]):
            with self.subTest(at):
                with self.assertRaises(NoTree):
                    fits(ADD, thing)
