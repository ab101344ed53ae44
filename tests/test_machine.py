import unittest

from piecelay.errors import Fault, Late
from piecelay.machine import is_code, run
from tests.odd import ODD

ARGS = (4, 3, 2, 9)


def told(code, size=10, steps=1000):
    return run(code, tuple([arg % size for arg in ARGS]), size=size, steps=steps)


class IsCodeTest(unittest.TestCase):
    def test_lengths(self):
        self.assertIs(is_code([0]), True)
        self.assertIs(is_code([0] * 1000), True)
        self.assertIs(is_code([]), False)
        self.assertIs(is_code([0] * 1001), False)

    def test_cells_at_and_beyond_their_bounds(self):
        self.assertIs(is_code([0, 99, 17, 50]), True)
        for cell in [-1, 100, True, False, None, "1", (1,), [1], 10**30, object()]:
            with self.subTest(cell):
                self.assertIs(is_code([cell]), False)
                self.assertIs(is_code([1, 1, cell]), False)

    def test_things_of_any_kind(self):
        for at, thing in enumerate(ODD + [(1, 1, 0), b"110", "110", range(3), {0: 1}]):
            with self.subTest(at):
                self.assertIs(is_code(thing), False)


class InstructionsTest(unittest.TestCase):
    def test_end_tells_the_one_number(self):
        self.assertEqual(told([1, 7, 0]), 7)

    def test_end_ends_all_also_within_a_call(self):
        self.assertEqual(told([1, 7, 15, 5, 0, 0, 1, 1]), 7)

    def test_put(self):
        self.assertEqual(told([1, 0, 0]), 0)
        self.assertEqual(told([1, 99, 0]), 9)
        self.assertEqual(told([1, 99, 0], size=10000), 99)

    def test_far(self):
        self.assertEqual(told([2, 34, 12, 0], size=10000), 1234)
        self.assertEqual(told([2, 99, 99, 0], size=10000), 9999)
        self.assertEqual(told([2, 99, 99, 0], size=7), 3)
        self.assertEqual(told([2, 0, 1, 0], size=1000), 100)

    def test_load(self):
        self.assertEqual([told([3, k, 0]) for k in range(4)], [4, 3, 2, 9])

    def test_add(self):
        self.assertEqual(told([1, 7, 1, 2, 4, 0]), 9)
        self.assertEqual(told([1, 7, 1, 5, 4, 0]), 2)

    def test_sub_takes_the_upper_from_the_lower(self):
        self.assertEqual(told([1, 7, 1, 2, 5, 0]), 5)
        self.assertEqual(told([1, 2, 1, 7, 5, 0]), 5)
        self.assertEqual(told([1, 2, 1, 3, 5, 0]), 9)

    def test_mul(self):
        self.assertEqual(told([1, 7, 1, 4, 6, 0]), 8)
        self.assertEqual(told([2, 99, 99, 2, 98, 99, 6, 0], size=10000), 2)

    def test_less_asks_whether_the_lower_is_less(self):
        self.assertEqual(told([1, 2, 1, 3, 7, 0]), 1)
        self.assertEqual(told([1, 3, 1, 2, 7, 0]), 0)
        self.assertEqual(told([1, 3, 1, 3, 7, 0]), 0)

    def test_skip(self):
        self.assertEqual(told([1, 5, 8, 0, 0]), 5)
        self.assertEqual(told([1, 5, 8, 2, 12, 1, 0]), 5)
        self.assertEqual(told([1, 5, 8, 9] + [99] * 9 + [0]), 5)

    def test_jump(self):
        self.assertEqual(told([1, 5, 9, 0, 0, 0]), 5)
        self.assertEqual(told([1, 5, 9, 2, 0, 12, 1, 0]), 5)
        self.assertEqual(told([1, 5, 9, 3, 2] + [99] * 203 + [0]), 5)

    def test_zero(self):
        self.assertEqual(told([1, 5, 1, 0, 10, 2, 12, 1, 0]), 5)
        self.assertEqual(told([1, 5, 1, 10, 10, 2, 12, 1, 0]), 5)
        self.assertEqual(told([1, 5, 1, 1, 10, 2, 12, 1, 0]), 6)
        self.assertEqual(told([1, 5, 1, 0, 10, 9] + [99] * 9 + [0]), 5)
        self.assertEqual(told([1, 5, 1, 0, 10, 0, 0]), 5)

    def test_none(self):
        self.assertEqual(told([1, 5, 1, 0, 11, 2, 0, 12, 1, 0]), 5)
        self.assertEqual(told([1, 5, 1, 3, 11, 2, 0, 12, 1, 0]), 6)
        self.assertEqual(told([1, 5, 1, 0, 11, 3, 2] + [99] * 203 + [0]), 5)
        self.assertEqual(told([1, 5, 1, 1, 11, 99, 99, 0]), 5)

    def test_more(self):
        self.assertEqual(told([1, 5, 12, 3, 0]), 8)
        self.assertEqual(told([1, 5, 12, 99, 0]), 4)
        self.assertEqual(told([1, 5, 12, 0, 0]), 5)

    def test_twice(self):
        self.assertEqual(told([1, 4, 13, 6, 0]), 6)
        self.assertEqual(told([1, 4, 13, 5, 0]), 0)

    def test_about(self):
        self.assertEqual(told([1, 7, 1, 2, 14, 5, 0]), 5)
        self.assertEqual(told([1, 7, 1, 4, 14, 5, 0]), 7)

    def test_call_and_back(self):
        self.assertEqual(told([15, 4, 0, 0, 1, 7, 16]), 7)
        self.assertEqual(told([1, 5, 15, 9, 0, 15, 9, 0, 0, 12, 1, 16]), 7)

    def test_back_goes_to_the_place_that_was_kept_last(self):
        code = [15, 4, 0, 0, 15, 10, 0, 12, 1, 16, 1, 5, 16]
        self.assertEqual(told(code), 6)

    def test_call_far(self):
        self.assertEqual(told([15, 3, 2, 0] + [99] * 199 + [1, 6, 16]), 6)

    def test_numbers_stay_numbers_of_the_size(self):
        self.assertEqual(told([1, 3, 1, 3, 4, 12, 1, 0], size=2), 1)
        self.assertEqual(told([1, 2, 10, 0, 1, 1, 0], size=2), 1)


class FaultsTest(unittest.TestCase):
    def assertFault(self, place, code, size=10):
        with self.assertRaises(Fault) as caught:
            told(code, size=size)
        self.assertEqual(caught.exception.place, place)

    def test_the_code_is_at_its_end(self):
        self.assertFault(2, [1, 1])
        self.assertFault(4, [1, 1, 8, 0])

    def test_a_cell_that_tells_none(self):
        for cell in [17, 18, 50, 99]:
            self.assertFault(0, [cell])
            self.assertFault(2, [1, 1, cell, 0, 0])

    def test_cells_behind_it_are_missing(self):
        for cell in [1, 2, 3, 8, 9, 10, 11, 12, 15]:
            with self.subTest(cell):
                self.assertFault(4, [1, 0, 1, 0, cell])
        for cell in [2, 9, 11, 15]:
            with self.subTest(cell):
                self.assertFault(4, [1, 0, 1, 0, cell, 0])

    def test_s_more_than_9(self):
        self.assertFault(2, [1, 1, 8, 10] + [0] * 20)
        self.assertFault(2, [1, 1, 8, 99] + [0] * 200)
        self.assertFault(4, [1, 1, 1, 0, 10, 10] + [0] * 20)
        self.assertFault(4, [1, 1, 1, 1, 10, 10] + [0] * 20)

    def test_k_more_than_3(self):
        self.assertFault(0, [3, 4, 0])
        self.assertFault(0, [3, 99, 0])
        self.assertFault(2, [1, 1, 3, 4])

    def test_too_few_numbers_for_two(self):
        for cell in [4, 5, 6, 7, 14]:
            with self.subTest(cell):
                self.assertFault(0, [cell, 1, 1, 0])
                self.assertFault(2, [1, 1, cell, 0])

    def test_too_few_numbers_for_one(self):
        for code in [[10, 0], [11, 0, 0], [12, 1], [13]]:
            with self.subTest(code):
                self.assertFault(0, code + [1, 1, 0])
                self.assertFault(2, [8, 0] + code + [1, 1, 0])

    def test_a_pile_of_64_and_of_65(self):
        full = [1, 1] * 64
        self.assertEqual(told(full + [4] * 63 + [0], size=100), 64)
        for code in [[1, 1], [2, 1, 0], [3, 0], [13]]:
            with self.subTest(code):
                self.assertFault(128, full + code + [0])
                self.assertEqual(told(full[2:] + code + [4] * 63 + [0], size=100), 63 + (4 if code[0] == 3 else 1))

    def test_a_full_pile_may_be_changed_within(self):
        full = [1, 1] * 64
        self.assertEqual(told(full + [12, 5, 14] + [4] * 63 + [0], size=100), 69)

    def test_end_with_another_pile(self):
        self.assertFault(0, [0])
        self.assertFault(4, [1, 1, 1, 1, 0])

    def test_16_places_to_go_back_to_and_17(self):
        calls = [cell for at in range(17) for cell in [15, 3 * at + 3, 0]]
        self.assertEqual(told(calls[:48] + [1, 7, 0]), 7)
        self.assertFault(48, calls + [1, 7, 0])
        self.assertFault(0, [15, 0, 0])

    def test_a_place_that_is_gone_back_to_is_forgotten(self):
        calls = [cell for _ in range(20) for cell in [15, 63, 0]]
        self.assertEqual(told([1, 0] + calls + [0, 12, 1, 16], size=100), 20)

    def test_back_without_a_place(self):
        self.assertFault(0, [16])
        self.assertFault(3, [15, 4, 0, 16, 16])

    def test_a_place_beyond_the_code(self):
        self.assertFault(11, [8, 9])
        self.assertFault(10002, [9, 99, 99])
        self.assertFault(13, [1, 0, 10, 9])
        self.assertFault(10004, [1, 0, 11, 99, 99])
        self.assertFault(9999, [15, 99, 99])
        self.assertFault(123, [15, 23, 1])

    def test_a_place_at_the_end_of_the_code(self):
        self.assertFault(4, [8, 2, 0, 0])
        self.assertFault(3, [15, 3, 0])

    def test_a_jump_into_the_cells_of_an_instruction(self):
        self.assertEqual(told([1, 7, 8, 1, 1, 0]), 7)

    def test_a_fault_that_is_not_reached_is_none(self):
        self.assertEqual(told([1, 7, 0, 99, 16, 3, 9]), 7)


class StepsTest(unittest.TestCase):
    def test_steps_that_just_reach_and_that_do_not(self):
        code = [1, 3, 12, 1, 0]
        self.assertEqual(told(code, steps=3), 4)
        for steps in [1, 2]:
            with self.assertRaises(Late):
                told(code, steps=steps)

    def test_1000_steps_where_none_are_told(self):
        self.assertEqual(run(thousand_steps(2), ARGS, size=10), 5)
        with self.assertRaises(Late):
            run(thousand_steps(3), ARGS, size=10)
        self.assertEqual(run(thousand_steps(3), ARGS, size=10, steps=1001), 5)
        with self.assertRaises(Late):
            run(thousand_steps(2), ARGS, size=10, steps=999)

    def test_the_most_steps(self):
        with self.assertRaises(Late):
            told(DOUBLING, steps=100000)

    def test_a_fault_that_comes_first(self):
        with self.assertRaises(Fault):
            told([1, 1, 1, 1, 16], steps=3)
        with self.assertRaises(Late):
            told([1, 1, 1, 1, 16], steps=2)
        with self.assertRaises(Fault):
            told([1, 1], steps=2)
        with self.assertRaises(Late):
            told([1, 1], steps=1)

    def test_nothing_handed_in_is_changed(self):
        code = [3, 0, 12, 1, 13, 4, 0]
        self.assertEqual(told(code), 0)
        self.assertEqual(told(code), 0)
        self.assertEqual(code, [3, 0, 12, 1, 13, 4, 0])


def thousand_steps(more):
    """Code of 998 steps, and so many more."""
    place = 2 + 4 * 3 + 2 * more + 1
    return [1, 5] + [15, place, 0] * 4 + [12, 0] * more + [0] + [12, 0] * 247 + [16]


# Each row of 7 cells calls the next one twice, 16 rows in all.
DOUBLING = [cell for row in range(1, 17) for cell in [15, 7 * row % 100, 7 * row // 100] * 2 + [16]] + [16]
