"""Promises [3], [4] and [5] by the doors of dialrow.telling, and their refusals."""

import copy
import inspect
import itertools
import random
import unittest

from dialrow import telling
from dialrow.answers import Best
from dialrow.errors import BadRow, BadSize, DialError, Unlike
from dialrow.rows import turned
from dialrow.telling import apart, best, level
from tests.things import (
    HUGE, Shy, all_rows, dial_by_dial, near_row, no_lists, no_numbers, some_row, steps_by_hand, sum_by_hand,
    turned_all, walked_from,
)

SIZES = (2, 3, 10, 10 ** 20)
COUNTS = (0, 1, 2, 3, 5, 8, 80)

# Few dials of few figures, of which all rows can be walked through.
SMALL = ((2, 0), (2, 1), (2, 2), (2, 3), (2, 4), (2, 5), (3, 1), (3, 2), (3, 3), (3, 4), (4, 2), (4, 3), (5, 2),
         (6, 2), (7, 1), (7, 2), (10, 0), (10, 1), (10, 2))

WRITTEN_OUT = [
    (10, [0], [1], 1), (10, [0], [9], 1), (10, [0], [5], 5), (10, [9], [0], 1), (10, [3], [7], 4), (10, [1], [8], 3),
    (10, [], [], 0), (10, [4], [4], 0), (10, [1, 2, 3], [1, 2, 3], 0),
    (10, [0, 0, 0], [1, 1, 1], 1), (10, [0, 0, 0], [1, 0, 1], 2), (10, [0, 0, 0], [1, 2, 1], 2),
    (10, [0, 0, 0], [1, 9, 1], 3), (10, [0, 0, 0], [3, 5, 9], 6), (10, [9, 9], [0, 0], 1), (10, [0, 0], [3, 5], 5),
    (10, [0, 0, 0, 0], [4, 8, 2, 6], 12), (10, [2, 7, 5], [3, 8, 6], 1), (10, [0, 9], [9, 0], 2),
    (2, [0], [1], 1), (2, [0, 1], [1, 0], 1), (2, [0, 0, 0], [1, 0, 1], 2), (2, [0] * 5, [1, 0, 1, 0, 1], 3),
    (3, [0, 0, 0], [1, 2, 0], 2), (3, [0, 0, 0], [1, 2, 1], 2), (3, [0, 0], [1, 2], 2), (3, [2, 2], [0, 0], 1),
    (10 ** 20, [0], [10 ** 20 - 1], 1), (10 ** 20, [0, 0], [5 * 10 ** 19, 0], 5 * 10 ** 19),
    (10 ** 20, [5, 10 ** 20 - 1], [10 ** 20 - 5, 3], 14), (HUGE, [0, 0], [HUGE // 3, HUGE // 3], HUGE // 3),
]


def pairs_of_rows(chance, size, dials):
    """Rows by chance, near and far, equal ones, and such as all dials of are turned by one number."""
    one = some_row(chance, size, dials)
    yield one, some_row(chance, size, dials)
    yield one, list(one)
    yield one, turned_all(size, one, chance.randrange(size))
    yield one, near_row(chance, size, one, 3, 2)
    yield one, near_row(chance, size, one, dials, size)
    yield [0] * dials, [size - 1] * dials
    yield [0] * dials, [(place % 2) * (size // 2) for place in range(dials)]
    yield [size - 1] * dials, [place % size for place in range(dials)]


class BestChecks(unittest.TestCase):
    def check_best(self, told, size, one, other):
        """It is as point 3 tells, reckoned here by itself."""
        note = (size, one, other)
        self.assertIs(type(told), Best, note)
        self.assertIs(type(told.deeds), list, note)
        for deed in told.deeds:
            self.assertIs(type(deed), tuple, note)
            self.assertEqual([type(part) for part in deed], [int, int, int], note)
            self.assertTrue(0 <= deed[0] < deed[1] <= len(one), note)
            self.assertNotEqual(deed[2], 0, note)
        self.assertEqual(dial_by_dial(size, one, told.deeds), other, note)
        self.assertEqual(turned(size, one, told.deeds), other, note)
        self.assertIs(type(told.mark), int, note)
        self.assertTrue(0 <= told.mark <= size, note)
        self.assertEqual(size * steps_by_hand(told.deeds), sum_by_hand(size, one, other, told.mark), note)
        self.assertIs(told.shows(size, one, other), True, note)


class InterfaceTest(unittest.TestCase):
    def test_each_is_defined_in_its_file(self):
        for name, asked in [
            ("best", ["size", "one", "other"]), ("apart", ["size", "one", "other"]), ("level", ["size", "row"]),
        ]:
            door = getattr(telling, name)
            self.assertEqual(door.__module__, "dialrow.telling")
            self.assertEqual(door.__name__, name)
            self.assertEqual(list(inspect.signature(door).parameters), asked)

    def test_by_keyword(self):
        self.assertEqual(apart(size=10, one=[1], other=[3]), 2)
        self.assertEqual(best(size=10, one=[1], other=[3]).deeds, best(10, [1], [3]).deeds)
        self.assertEqual(level(size=10, row=[1, 3]).deeds, level(10, [1, 3]).deeds)


class BestTest(BestChecks):
    def test_written_out(self):
        for size, one, other, steps in WRITTEN_OUT:
            told = best(size, one, other)
            self.check_best(told, size, one, other)
            self.assertEqual(steps_by_hand(told.deeds), steps, (size, one, other))

    def test_rows_by_chance(self):
        chance = random.Random(11)
        for size, dials in itertools.product(SIZES, COUNTS):
            for one, other in pairs_of_rows(chance, size, dials):
                self.check_best(best(size, one, other), size, one, other)
                self.check_best(best(size, other, one), size, other, one)

    def test_every_two_rows_of_few_dials(self):
        for size, dials in [(2, 4), (3, 3), (4, 2), (5, 2), (10, 1)]:
            for one, other in itertools.product(all_rows(size, dials), repeat=2):
                self.check_best(best(size, one, other), size, one, other)

    def test_very_large_sizes_and_many_dials(self):
        chance = random.Random(12)
        for size, dials in [(10 ** 20, 400), (HUGE, 300), (2 ** 64, 200), (10 ** 5000, 60), (2, 700), (10, 700)]:
            for one, other in pairs_of_rows(chance, size, dials):
                self.check_best(best(size, one, other), size, one, other)

    def test_no_deeds_where_the_rows_are_equal(self):
        chance = random.Random(13)
        for size, dials in itertools.product(SIZES, COUNTS):
            row = some_row(chance, size, dials)
            told = best(size, row, list(row))
            self.assertEqual(told.deeds, [])
            self.check_best(told, size, row, row)
            self.check_best(best(size, row, row), size, row, row)

    def test_the_last_figure_and_nought_are_a_step_apart(self):
        for size in (3, 10, HUGE):
            self.assertEqual(best(size, [size - 1], [0]).deeds, [(0, 1, 1)])
            self.assertEqual(best(size, [0], [size - 1]).deeds, [(0, 1, -1)])


class ApartTest(unittest.TestCase):
    def test_written_out(self):
        for size, one, other, steps in WRITTEN_OUT:
            self.assertEqual(apart(size, one, other), steps, (size, one, other))
            self.assertIs(type(apart(size, one, other)), int)

    def test_as_many_steps_as_a_walk_takes(self):
        for size, dials in SMALL:
            for one in all_rows(size, dials):
                far = walked_from(size, one)
                self.assertEqual(len(far), size ** dials)
                for other, steps in far.items():
                    self.assertEqual(apart(size, one, list(other)), steps, (size, one, other))

    def test_as_many_steps_as_longer_walks_take(self):
        chance = random.Random(21)
        for size, dials in [(2, 9), (3, 6), (4, 5), (5, 4), (10, 3)]:
            one = some_row(chance, size, dials)
            for other, steps in walked_from(size, one).items():
                self.assertEqual(apart(size, one, list(other)), steps, (size, one, other))

    def test_the_steps_of_the_best_deeds(self):
        chance = random.Random(22)
        for size, dials in itertools.product(SIZES + (HUGE,), COUNTS):
            for one, other in pairs_of_rows(chance, size, dials):
                self.assertEqual(apart(size, one, other), steps_by_hand(best(size, one, other).deeds))

    def test_nothing_just_if_equal(self):
        for size, dials in [(2, 3), (3, 2), (10, 1)]:
            for one, other in itertools.product(all_rows(size, dials), repeat=2):
                self.assertEqual(apart(size, one, other) == 0, one == other)
        chance = random.Random(23)
        for size, dials in itertools.product(SIZES, (1, 2, 80)):
            row = some_row(chance, size, dials)
            self.assertEqual(apart(size, row, list(row)), 0)
            for place in (0, dials // 2, dials - 1):
                other = list(row)
                other[place] = (other[place] + 1) % size
                self.assertEqual(apart(size, row, other), 1)

    def test_the_same_both_ways(self):
        chance = random.Random(24)
        for size, dials in itertools.product(SIZES + (7, HUGE), COUNTS):
            for one, other in pairs_of_rows(chance, size, dials):
                self.assertEqual(apart(size, one, other), apart(size, other, one))

    def test_the_same_backwards(self):
        chance = random.Random(25)
        for size, dials in itertools.product(SIZES + (7, HUGE), COUNTS):
            for one, other in pairs_of_rows(chance, size, dials):
                self.assertEqual(apart(size, one, other), apart(size, one[::-1], other[::-1]))

    def test_the_same_with_all_dials_turned_by_a_number(self):
        chance = random.Random(26)
        for size, dials in itertools.product(SIZES + (7, HUGE), COUNTS):
            for one, other in pairs_of_rows(chance, size, dials):
                for number in (1, size - 1, chance.randrange(size)):
                    both = turned_all(size, one, number), turned_all(size, other, number)
                    self.assertEqual(apart(size, one, other), apart(size, *both))

    def test_never_more_than_by_a_third_row(self):
        chance = random.Random(27)
        for one, third, other in itertools.product(all_rows(3, 2), repeat=3):
            self.assertLessEqual(apart(3, one, other), apart(3, one, third) + apart(3, third, other))
        for size, dials in itertools.product(SIZES + (7, HUGE), COUNTS):
            for one, other in pairs_of_rows(chance, size, dials):
                for third in (some_row(chance, size, dials), near_row(chance, size, one, 2, 3), [0] * dials):
                    self.assertLessEqual(apart(size, one, other), apart(size, one, third) + apart(size, third, other))

    def test_just_as_much_by_a_row_on_the_way(self):
        chance = random.Random(28)
        for size, dials in itertools.product(SIZES, COUNTS):
            for one, other in pairs_of_rows(chance, size, dials):
                deeds = best(size, one, other).deeds
                third = turned(size, one, deeds[:len(deeds) // 2])
                self.assertEqual(apart(size, one, other), apart(size, one, third) + apart(size, third, other))

    def test_never_more_than_any_deeds_take(self):
        chance = random.Random(29)
        for size, dials in itertools.product(SIZES, (1, 2, 8, 80)):
            for _ in range(20):
                one = some_row(chance, size, dials)
                first, end = sorted(chance.sample(range(dials + 1), 2))
                deeds = [(first, end, chance.randint(1, 5)), (0, dials, -chance.randint(1, 5))]
                self.assertLessEqual(apart(size, one, turned(size, one, deeds)), steps_by_hand(deeds))


class LevelTest(BestChecks):
    def check_level(self, size, row):
        self.check_best(level(size, row), size, row, [row[0]] * len(row) if row else [])

    def test_written_out(self):
        for size, row, steps in [
            (10, [], 0), (10, [7], 0), (10, [3, 3, 3], 0), (10, [3, 4], 1), (10, [0, 9, 0], 1), (10, [0, 5], 5),
            (10, [0, 9, 1], 2), (10, [9, 0, 0, 0], 1), (10, [0, 0, 4, 4, 4], 4), (10, [2, 8, 2], 4),
            (2, [0, 1, 0, 1], 2), (2, [1, 0, 0, 1], 1), (3, [0, 1, 2, 0], 2), (3, [0, 1, 2], 2),
            (10 ** 20, [0, 10 ** 20 - 1, 1], 2), (HUGE, [5, HUGE - 5], 10),
        ]:
            with self.subTest(size=size, row=row):
                self.assertEqual(steps_by_hand(level(size, row).deeds), steps)
                self.check_level(size, row)

    def test_the_figure_of_the_first_dial(self):
        chance = random.Random(31)
        for size, dials in itertools.product(SIZES + (7, HUGE), COUNTS):
            for row in (some_row(chance, size, dials), [size - 1] * dials, [k % size for k in range(dials)]):
                self.check_level(size, row)

    def test_of_no_dials(self):
        for size in SIZES:
            told = level(size, [])
            self.assertEqual(told.deeds, [])
            self.check_level(size, [])

    def test_no_more_steps_than_to_any_figure(self):
        for size, dials in [(2, 1), (2, 5), (3, 4), (4, 3), (5, 3), (10, 2)]:
            for row in all_rows(size, dials):
                far = walked_from(size, row)
                least = min(far[(figure,) * dials] for figure in range(size))
                self.assertEqual(steps_by_hand(level(size, row).deeds), least, (size, row))

    def test_no_more_steps_than_to_any_figure_of_many_dials(self):
        chance = random.Random(32)
        for size, dials in [(2, 80), (3, 80), (10, 30), (26, 80)]:
            row = some_row(chance, size, dials)
            least = min(apart(size, row, [figure] * dials) for figure in range(size))
            self.assertEqual(steps_by_hand(level(size, row).deeds), least)
        for size in (10 ** 20, HUGE):
            row = some_row(chance, size, 80)
            for figure in row + [0, 1, size // 2, size - 1]:
                steps = steps_by_hand(level(size, row).deeds)
                self.assertLessEqual(steps, apart(size, row, [figure] * 80))

    def test_as_many_steps_of_the_row_turned_by_a_number(self):
        chance = random.Random(33)
        for size, dials in itertools.product(SIZES + (7, HUGE), COUNTS):
            row = some_row(chance, size, dials)
            steps = steps_by_hand(level(size, row).deeds)
            for number in (1, size - 1, chance.randrange(size)):
                self.assertEqual(steps_by_hand(level(size, turned_all(size, row, number)).deeds), steps)


class HandedInTest(unittest.TestCase):
    def test_the_rows_stay_as_they_were(self):
        chance = random.Random(41)
        for size, dials in itertools.product(SIZES, COUNTS):
            for one, other in pairs_of_rows(chance, size, dials):
                one_before, other_before = copy.deepcopy(one), copy.deepcopy(other)
                best(size, one, other).deeds.append((0, 1, 1))
                apart(size, one, other)
                level(size, one).deeds.append((0, 1, 1))
                self.assertEqual(one, one_before)
                self.assertEqual(other, other_before)

    def test_they_stay_as_they_were_where_they_are_refused(self):
        one, other, wrong = [1, 2], [3, 4, 5], [1, 10]
        for door in (best, apart):
            self.assertRaises(Unlike, door, 10, one, other)
            self.assertRaises(BadRow, door, 10, one, wrong)
        self.assertRaises(BadRow, level, 10, wrong)
        self.assertEqual((one, other, wrong), ([1, 2], [3, 4, 5], [1, 10]))

    def test_the_deeds_told_are_the_askers_own(self):
        for ask in (
            lambda: best(10, [], []), lambda: best(10, [1, 2], [1, 2]), lambda: best(10, [1, 2, 3], [5, 5, 9]),
            lambda: level(10, []), lambda: level(10, [4]), lambda: level(10, [1, 5, 2]),
        ):
            told, again = ask(), ask()
            self.assertIsNot(told, again)
            self.assertIsNot(told.deeds, again.deeds)
            kept, mark = list(again.deeds), again.mark
            told.deeds.append((0, 1, 1))
            told.deeds.reverse()
            told.mark = -5
            self.assertEqual((again.deeds, again.mark), (kept, mark))
            self.assertEqual((ask().deeds, ask().mark), (kept, mark))

    def test_no_row_is_kept(self):
        one, other = [1, 2, 3], [4, 4, 4]
        told = best(10, one, other)
        flat = level(10, one)
        kept, flat_kept = list(told.deeds), list(flat.deeds)
        one[0] = 9
        other.append(1)
        self.assertEqual((told.deeds, flat.deeds), (kept, flat_kept))
        self.assertIs(told.shows(10, [1, 2, 3], [4, 4, 4]), True)
        self.assertEqual(apart(10, [0], [4]), 4)
        self.assertEqual(apart(10, [1, 2, 3], [1, 2, 3]), 0)


class RefusalTest(unittest.TestCase):
    BAD_SIZES = [1, 0, -1, -2, -10, -HUGE, -(10 ** 5000)] + no_numbers()
    BAD_FIGURES = [-1, -10, -HUGE, 10, 11, HUGE, 10 ** 5000] + no_numbers()

    def refused(self, error, door, *handed):
        with self.assertRaises(error) as caught:
            door(*handed)
        self.assertIs(type(caught.exception), error)
        self.assertIsInstance(caught.exception, DialError)
        self.assertIsInstance(caught.exception, ValueError)

    def bad_rows(self):
        return no_lists() + [[figure] for figure in self.BAD_FIGURES] + [[1, 2, figure] for figure in self.BAD_FIGURES]

    def test_no_size(self):
        for size in self.BAD_SIZES:
            for door in (best, apart):
                self.refused(BadSize, door, size, [], [])
                self.refused(BadSize, door, size, [0], [0])
            self.refused(BadSize, level, size, [])
            self.refused(BadSize, level, size, [0])

    def test_the_least_size(self):
        self.assertEqual(apart(2, [0], [1]), 1)
        self.assertEqual(best(2, [0], [0]).deeds, [])
        self.assertEqual(level(2, [1]).deeds, [])
        for door in (best, apart):
            self.refused(BadSize, door, 1, [0], [0])
        self.refused(BadSize, level, 1, [0])

    def test_no_row(self):
        for door in (best, apart):
            for row in self.bad_rows():
                self.refused(BadRow, door, 10, row, [1, 2])
            for row in self.bad_rows():
                self.refused(BadRow, door, 10, [1, 2], row)
            for row in self.bad_rows():
                self.refused(BadRow, door, 10, row, row)
        for row in self.bad_rows():
            self.refused(BadRow, level, 10, row)

    def test_no_figure_among_many(self):
        for figure in self.BAD_FIGURES:
            for wrong in ([figure, 1, 2], [1, figure, 2], [1, 2, figure]):
                for door in (best, apart):
                    self.refused(BadRow, door, 10, wrong, [1, 2, 3])
                    self.refused(BadRow, door, 10, [1, 2, 3], wrong)
                self.refused(BadRow, level, 10, wrong)

    def test_the_last_figure_and_the_size(self):
        for size in SIZES + (HUGE,):
            self.assertEqual(apart(size, [size - 1], [size - 1]), 0)
            self.assertEqual(best(size, [size - 1], [size - 1]).deeds, [])
            self.assertEqual(level(size, [size - 1]).deeds, [])
            for door in (best, apart):
                self.refused(BadRow, door, size, [size], [0])
                self.refused(BadRow, door, size, [0], [size])
                self.refused(BadRow, door, size, [-1], [0])
                self.refused(BadRow, door, size, [0], [-1])
            self.refused(BadRow, level, size, [size])
            self.refused(BadRow, level, size, [0, -1])

    def test_true_and_false_are_no_figures(self):
        for figure in (True, False):
            for door in (best, apart):
                self.refused(BadRow, door, 2, [figure], [0])
                self.refused(BadRow, door, 2, [0], [figure])
            self.refused(BadRow, level, 2, [figure])
            self.refused(BadRow, level, 2, [0, figure])

    def test_a_row_in_itself(self):
        row = [0]
        row.append(row)
        for door in (best, apart):
            self.refused(BadRow, door, 10, row, [0, 0])
            self.refused(BadRow, door, 10, [0, 0], row)
        self.refused(BadRow, level, 10, row)

    def test_other_counts_of_dials(self):
        for one, other in [(0, 1), (1, 2), (2, 5), (80, 81), (0, 80)]:
            for door in (best, apart):
                self.refused(Unlike, door, 10, [0] * one, [0] * other)
                self.refused(Unlike, door, 10, [0] * other, [0] * one)
                self.refused(Unlike, door, HUGE, [HUGE - 1] * one, [0] * other)

    def test_which_goes_first(self):
        bad_sizes = [1, 0, -HUGE, True, None, "10", [10], 10.0, Shy()]
        bad_rows = [None, (1, 2), "12", [1, -1], [1, True], [None], [HUGE], [10, 1, 2, 3], Shy(), [Shy()]]
        for door in (best, apart):
            for size in bad_sizes:
                for one, other in itertools.product(bad_rows + [[], [1]], repeat=2):
                    self.refused(BadSize, door, size, one, other)
            for row in bad_rows:
                for good in ([], [1], [1, 2], [1, 2, 3]):
                    self.refused(BadRow, door, 10, row, good)
                    self.refused(BadRow, door, 10, good, row)
            for one, other in itertools.product(bad_rows, repeat=2):
                self.refused(BadRow, door, 10, one, other)
        for size in bad_sizes:
            for row in bad_rows + [[], [1]]:
                self.refused(BadSize, level, size, row)


if __name__ == "__main__":
    unittest.main()
