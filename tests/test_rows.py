"""Promises [1] and [2]: sizes, rows and deeds, and the row behind deeds."""

import copy
import inspect
import itertools
import random
import unittest

from dialrow.errors import BadDeeds, BadRow, BadSize, DialError
from dialrow.rows import turned
from tests.things import (
    HUGE, Shy, dial_by_dial, no_lists, no_numbers, some_deeds, some_row, step_by_step,
)


class TurnedTest(unittest.TestCase):
    def test_interface(self):
        self.assertEqual(turned.__module__, "dialrow.rows")
        self.assertEqual(list(inspect.signature(turned).parameters), ["size", "row", "deeds"])
        self.assertEqual(turned(size=10, row=[1], deeds=[(0, 1, 2)]), [3])

    def test_written_out(self):
        for size, row, deeds, behind in [
            (10, [0, 0, 0], [(0, 3, 1)], [1, 1, 1]),
            (10, [0, 0, 0], [(0, 1, 1)], [1, 0, 0]),
            (10, [0, 0, 0], [(1, 2, 1)], [0, 1, 0]),
            (10, [0, 0, 0], [(2, 3, 1)], [0, 0, 1]),
            (10, [0, 0, 0], [(1, 3, -1)], [0, 9, 9]),
            (10, [9, 0, 5], [(0, 2, 1), (1, 3, -2)], [0, 9, 3]),
            (10, [9, 8, 7], [(0, 3, 1)], [0, 9, 8]),
            (10, [4, 4], [(0, 2, 3), (0, 2, -3)], [4, 4]),
            (7, [6, 0, 3], [(0, 3, 25)], [3, 4, 0]),
            (7, [6, 0, 3], [(0, 3, -25)], [2, 3, 6]),
            (3, [2], [(0, 1, 1)], [0]),
            (3, [0], [(0, 1, -1)], [2]),
        ]:
            with self.subTest(size=size, row=row, deeds=deeds):
                self.assertEqual(turned(size, row, deeds), behind)

    def test_size_two(self):
        self.assertEqual(turned(2, [0, 1], [(0, 2, 1)]), [1, 0])
        self.assertEqual(turned(2, [0, 1], [(0, 2, -1)]), [1, 0])
        self.assertEqual(turned(2, [0, 1], [(0, 2, 2)]), [0, 1])
        self.assertEqual(turned(2, [0, 1, 0], [(1, 2, -3), (0, 1, HUGE)]), [0, 0, 0])

    def test_every_single_deed_of_few_dials(self):
        for size, dials in [(2, 1), (2, 3), (3, 2), (4, 2), (10, 1)]:
            for row in itertools.product(range(size), repeat=dials):
                for first, end in itertools.combinations(range(dials + 1), 2):
                    for steps in [k for k in range(-2 * size - 1, 2 * size + 2) if k != 0]:
                        deeds = [(first, end, steps)]
                        with self.subTest(size=size, row=row, deeds=deeds):
                            self.assertEqual(turned(size, list(row), deeds), step_by_step(size, row, deeds))

    def test_many_dials_step_by_step(self):
        chance = random.Random(1)
        for size in (2, 3, 7, 10, 26, 100):
            for dials in (1, 2, 5, 20, 80):
                row = some_row(chance, size, dials)
                deeds = some_deeds(chance, dials, 12, 3 * size)
                with self.subTest(size=size, dials=dials):
                    self.assertEqual(turned(size, row, deeds), step_by_step(size, row, deeds))

    def test_very_large_sizes_and_very_many_steps(self):
        chance = random.Random(2)
        for size in (2, 10, 2 ** 64, HUGE, HUGE + 7, 10 ** 5000):
            for most in (1, size - 1, size, HUGE ** 3):
                row = some_row(chance, size, 80)
                deeds = some_deeds(chance, 80, 30, most)
                self.assertEqual(turned(size, row, deeds), dial_by_dial(size, row, deeds))

    def test_very_large_written_out(self):
        self.assertEqual(turned(HUGE, [HUGE - 1, 0], [(0, 1, 1), (1, 2, -1)]), [0, HUGE - 1])
        self.assertEqual(turned(HUGE, [5], [(0, 1, HUGE * HUGE + 2)]), [7])
        self.assertEqual(turned(10, [5], [(0, 1, HUGE + 2)]), [7])
        self.assertEqual(turned(10, [5], [(0, 1, -HUGE - 6)]), [9])

    def test_round_by_the_size_is_the_row_itself(self):
        for size in (2, 3, 10, HUGE):
            row = [0, 1, size - 1]
            self.assertEqual(turned(size, row, [(0, 3, size)]), row)
            self.assertEqual(turned(size, row, [(0, 3, -size)]), row)
            self.assertEqual(turned(size, row, [(0, 3, size * HUGE)]), row)

    def test_end_at_the_count_of_dials(self):
        for dials in (1, 2, 80):
            self.assertEqual(turned(10, [9] * dials, [(0, dials, 1)]), [0] * dials)
            self.assertEqual(turned(10, [0] * dials, [(dials - 1, dials, -1)]), [0] * (dials - 1) + [9])

    def test_half_of_the_deeds_and_then_the_rest(self):
        chance = random.Random(3)
        for size in (2, 10, HUGE):
            for dials in (1, 6, 80):
                row = some_row(chance, size, dials)
                deeds = some_deeds(chance, dials, 20, 2 * size)
                for cut in (0, 1, 10, 20):
                    half = turned(size, row, deeds[:cut])
                    self.assertEqual(turned(size, half, deeds[cut:]), turned(size, row, deeds))

    def test_the_deeds_back_again_in_the_other_order(self):
        chance = random.Random(4)
        for size in (2, 10, HUGE):
            for dials in (1, 6, 80):
                row = some_row(chance, size, dials)
                deeds = some_deeds(chance, dials, 20, 2 * size)
                back = [(first, end, -steps) for first, end, steps in reversed(deeds)]
                self.assertEqual(turned(size, turned(size, row, deeds), back), row)

    def test_no_dials(self):
        for size in (2, 10, HUGE):
            self.assertEqual(turned(size, [], []), [])

    def test_no_deeds(self):
        for size, row in [(2, [0]), (2, [1, 0, 1]), (10, [9] * 80), (HUGE, [HUGE - 1, 0])]:
            self.assertEqual(turned(size, row, []), row)


class HandedInTest(unittest.TestCase):
    def test_the_row_told_is_a_new_list(self):
        for row, deeds in [([], []), ([3, 4], []), ([3, 4], [(0, 1, 1)]), ([3, 4], [(0, 2, 10)])]:
            with self.subTest(row=row, deeds=deeds):
                behind = turned(10, row, deeds)
                again = turned(10, row, deeds)
                self.assertIs(type(behind), list)
                self.assertIsNot(behind, row)
                self.assertIsNot(behind, deeds)
                self.assertIsNot(behind, again)
                kept = list(again)
                behind.append(7)
                self.assertEqual(turned(10, row, deeds), kept)
                self.assertEqual(again, kept)

    def test_the_row_and_the_deeds_stay_as_they_were(self):
        chance = random.Random(5)
        for dials in (1, 2, 80):
            row = some_row(chance, 10, dials)
            deeds = some_deeds(chance, dials, 9, 30)
            row_before, deeds_before = copy.deepcopy(row), copy.deepcopy(deeds)
            turned(10, row, deeds)
            turned(10, row, [])
            self.assertEqual(row, row_before)
            self.assertEqual(deeds, deeds_before)

    def test_they_stay_as_they_were_where_they_are_refused(self):
        row, deeds = [1, 2, 3], [(0, 1, 1), (0, 4, 1)]
        with self.assertRaises(BadDeeds):
            turned(10, row, deeds)
        self.assertEqual(row, [1, 2, 3])
        self.assertEqual(deeds, [(0, 1, 1), (0, 4, 1)])

    def test_nothing_is_kept_from_call_to_call(self):
        row, deeds = [1, 2], [(0, 2, 1)]
        self.assertEqual(turned(10, row, deeds), [2, 3])
        row[0] = 5
        deeds.append((1, 2, 4))
        self.assertEqual(turned(10, row, deeds), [6, 7])


class RefusalTest(unittest.TestCase):
    def refused(self, error, size, row, deeds):
        with self.assertRaises(error) as caught:
            turned(size, row, deeds)
        self.assertIs(type(caught.exception), error)
        self.assertIsInstance(caught.exception, DialError)
        self.assertIsInstance(caught.exception, ValueError)

    def test_no_size(self):
        for size in [1, 0, -1, -2, -10, -HUGE, -(10 ** 5000)] + no_numbers():
            for row in ([], [0]):
                self.refused(BadSize, size, row, [])

    def test_the_least_size(self):
        self.assertEqual(turned(2, [1], []), [1])
        self.refused(BadSize, 1, [0], [])

    def test_no_row(self):
        for row in no_lists():
            self.refused(BadRow, 10, row, [])

    def test_no_figure(self):
        for figure in [-1, -10, -HUGE, 10, 11, HUGE, 10 ** 5000, -(10 ** 5000)] + no_numbers():
            self.refused(BadRow, 10, [figure], [])
            self.refused(BadRow, 10, [figure, 1, 2], [(0, 1, 1)])
            self.refused(BadRow, 10, [1, figure, 2], [(0, 1, 1)])
            self.refused(BadRow, 10, [1, 2] * 40 + [figure], [(0, 1, 1)])

    def test_the_last_figure_and_the_size(self):
        for size in (2, 3, 10, HUGE):
            self.assertEqual(turned(size, [size - 1], []), [size - 1])
            self.refused(BadRow, size, [size], [])
            self.refused(BadRow, size, [-1], [])

    def test_true_and_false_are_no_figures(self):
        for figure in (True, False):
            self.refused(BadRow, 2, [figure], [])
            self.refused(BadRow, 2, [0, 1, figure], [])

    def test_a_row_in_itself(self):
        row = [0]
        row.append(row)
        self.refused(BadRow, 10, row, [])

    def test_no_deeds(self):
        for deeds in no_lists():
            self.refused(BadDeeds, 10, [1, 2], deeds)
            self.refused(BadDeeds, 10, [], deeds)

    def test_no_deed(self):
        kinds = no_numbers() + no_lists() + [
            [0, 1, 1], [(0, 1, 1)], ((0, 1, 1),), (), (0,), (0, 1), (0, 1, 1, 1), (0, 1, 1, None),
            "011", b"\x00\x01\x01", {0: 0, 1: 1, 2: 1}, range(3),
        ]
        for deed in kinds:
            self.refused(BadDeeds, 10, [1, 2], [deed])
            self.refused(BadDeeds, 10, [1, 2], [(0, 1, 1), deed, (1, 2, 1)])
            self.refused(BadDeeds, 10, [1, 2], [(0, 2, 5), (0, 1, 1), deed])

    def test_parts_of_a_deed_that_are_no_numbers(self):
        for part in no_numbers():
            self.refused(BadDeeds, 10, [1, 2, 3], [(part, 2, 1)])
            self.refused(BadDeeds, 10, [1, 2, 3], [(0, part, 1)])
            self.refused(BadDeeds, 10, [1, 2, 3], [(0, 2, part)])
            self.refused(BadDeeds, 10, [1, 2, 3], [(0, 2, 1), (0, 2, part)])

    def test_true_and_false_in_deeds(self):
        # Each of these would do if True were 1 and False were 0.
        for deed in [(False, 2, 1), (True, 2, 1), (0, True, 1), (0, 2, True)]:
            self.refused(BadDeeds, 10, [1, 2], [deed])

    def test_counts_and_ends_that_are_no_stretch(self):
        for first, end in [
            (-1, 1), (-3, -1), (-1, 0), (-HUGE, 3), (0, 0), (1, 1), (2, 2), (3, 3), (2, 1), (2, 0), (1, -1), (0, -1),
            (0, 4), (2, 4), (3, 4), (4, 5), (4, 4), (3, 2), (0, HUGE), (HUGE, HUGE + 1), (0, 10 ** 5000),
        ]:
            self.refused(BadDeeds, 10, [1, 2, 3], [(first, end, 1)])
            self.refused(BadDeeds, 10, [1, 2, 3], [(0, 3, 1), (first, end, -1)])

    def test_every_count_and_end(self):
        for dials in range(4):
            for first, end in itertools.product(range(-2, dials + 3), repeat=2):
                deeds = [(first, end, 1)]
                with self.subTest(dials=dials, deeds=deeds):
                    if 0 <= first < end <= dials:
                        self.assertEqual(turned(10, [9] * dials, deeds), step_by_step(10, [9] * dials, deeds))
                    else:
                        self.refused(BadDeeds, 10, [9] * dials, deeds)

    def test_no_deed_of_no_dials(self):
        for deed in [(0, 0, 1), (0, 1, 1), (-1, 0, 1)]:
            self.refused(BadDeeds, 10, [], [deed])

    def test_steps_of_nought(self):
        self.refused(BadDeeds, 10, [1, 2], [(0, 2, 0)])
        self.refused(BadDeeds, 10, [1, 2], [(0, 2, 1), (0, 1, 0)])

    def test_bad_deeds_where_the_rest_undoes_them(self):
        self.refused(BadDeeds, 10, [1, 2], [(0, 3, 1), (0, 3, -1)])

    def test_which_goes_first(self):
        bad_sizes = [1, 0, -HUGE, True, None, "10", [10], 10.0, Shy()]
        bad_rows = [None, (1, 2), "12", [1, -1], [1, True], [None], [HUGE], Shy(), [Shy()]]
        bad_deeds = [None, (), "", [None], [(0, 1)], [(0, 1, 0)], [[0, 1, 1]], [(0, 9, 1)], Shy(), [Shy()]]
        for size in bad_sizes:
            for row in bad_rows + [[]]:
                for deeds in bad_deeds + [[]]:
                    self.refused(BadSize, size, row, deeds)
        for row in bad_rows:
            for deeds in bad_deeds + [[]]:
                self.refused(BadRow, 10, row, deeds)
        for deeds in bad_deeds:
            self.refused(BadDeeds, 10, [1, 2], deeds)


if __name__ == "__main__":
    unittest.main()
