"""Promise [3] by `Best`: its fields, and what it shows."""

import copy
import inspect
import itertools
import random
import unittest

from dialrow.answers import Best
from dialrow.telling import best, level
from tests.things import (
    HUGE, all_rows, dial_by_dial, gaps_by_hand, near_row, shown_by_hand, some_row, steps_by_hand, sum_by_hand,
)

SIZES = (2, 3, 10, 10 ** 20)
COUNTS = (0, 1, 2, 5, 80)

# From [0, 0] to [3, 5] of size 10: gaps of 3, 2 and 5, at least 5 steps, and marks from 3 to 5 that show it.
ONE, OTHER = [0, 0], [3, 5]
DEEDS = [(0, 2, 3), (1, 2, 2)]
MARK = 4


class FieldsTest(unittest.TestCase):
    def test_interface(self):
        self.assertEqual(Best.__module__, "dialrow.answers")
        self.assertEqual(list(inspect.signature(Best).parameters), ["deeds", "mark"])
        self.assertIn("shows", Best.__dict__)
        self.assertEqual(list(inspect.signature(Best.shows).parameters), ["self", "size", "one", "other"])
        told = Best(deeds=[(0, 1, 2)], mark=3)
        self.assertIs(told.shows(size=10, one=[0], other=[2]), True)

    def test_the_fields(self):
        for deeds in ([], [(0, 1, 2)], [(0, 2, 3), (1, 2, -HUGE)], [(-1, 0, 0)]):
            for mark in (0, 3, -7, HUGE):
                told = Best(deeds, mark)
                self.assertEqual(told.deeds, deeds)
                self.assertIs(type(told.deeds), list)
                self.assertEqual(told.mark, mark)

    def test_the_list_is_copied(self):
        for deeds in ([], [(0, 2, 3), (1, 2, 2)]):
            before = list(deeds)
            told, again = Best(deeds, 4), Best(deeds, 4)
            self.assertIsNot(told.deeds, deeds)
            self.assertIsNot(told.deeds, again.deeds)
            told.deeds.append((0, 1, 1))
            self.assertEqual(deeds, before)
            self.assertEqual(again.deeds, before)
            deeds.clear()
            self.assertEqual(told.deeds, before + [(0, 1, 1)])
            self.assertEqual(again.deeds, before)


class ShowsTest(unittest.TestCase):
    def shown(self, wanted, size, one, other, deeds, mark):
        note = (size, one, other, deeds, mark)
        self.assertIs(Best(deeds, mark).shows(size, one, other), wanted, note)

    def test_what_best_and_level_tell(self):
        chance = random.Random(51)
        for size, dials in itertools.product(SIZES + (HUGE,), COUNTS):
            one = some_row(chance, size, dials)
            for other in (list(one), some_row(chance, size, dials), near_row(chance, size, one, 3, 2)):
                self.assertIs(best(size, one, other).shows(size, one, other), True)
            self.assertIs(level(size, one).shows(size, one, one[:1] * dials), True)

    def test_other_deeds_and_other_marks(self):
        for deeds in [
            [(0, 2, 3), (1, 2, 2)], [(1, 2, 2), (0, 2, 3)], [(0, 2, 1), (1, 2, 1), (0, 2, 1), (1, 2, 1), (0, 2, 1)],
            [(0, 2, 2), (1, 2, 2), (0, 2, 1)],
        ]:
            for mark in (3, 4, 5):
                self.shown(True, 10, ONE, OTHER, deeds, mark)
        # Halfway round it is as far forth as back.
        for deeds in ([(0, 1, 5)], [(0, 1, -5)], [(0, 1, 2), (0, 1, 3)], [(0, 1, -1), (0, 1, -4)]):
            self.shown(True, 10, [0], [5], deeds, 5)
        self.shown(True, 2, [0, 1], [1, 0], [(0, 2, 1)], 1)
        self.shown(True, 2, [0, 1], [1, 0], [(0, 2, -1)], 1)
        self.shown(True, 10, [0, 0, 0], [1, 0, 1], [(0, 1, 1), (2, 3, 1)], 1)
        self.shown(True, 10, [0, 0, 0], [1, 0, 1], [(0, 3, 1), (1, 2, -1)], 9)
        self.shown(True, 10, [0, 0, 0], [1, 0, 1], [(1, 2, -1), (0, 3, 1)], 5)

    def test_every_mark_of_equal_rows(self):
        for size in (2, 3, 10):
            for row in ([], [0], [1, 0, 1]):
                for mark in range(size + 1):
                    self.shown(True, size, row, list(row), [], mark)
                for mark in (-HUGE, -size, -2, -1, size + 1, size + 2, 2 * size, HUGE):
                    self.shown(False, size, row, list(row), [], mark)
        self.shown(True, HUGE, [7, 8], [7, 8], [], 0)
        self.shown(True, HUGE, [7, 8], [7, 8], [], HUGE)
        self.shown(False, HUGE, [7, 8], [7, 8], [], HUGE + 1)
        self.shown(False, HUGE, [7, 8], [7, 8], [], -1)

    def test_marks_with_a_lesser_sum(self):
        for mark in (0, 1, 2, 6, 7, 8, 9, 10):
            self.assertLess(sum_by_hand(10, ONE, OTHER, mark), 10 * 5)
            self.shown(False, 10, ONE, OTHER, DEEDS, mark)

    def test_marks_that_are_none(self):
        for mark in (-1, -4, -10, -HUGE, -(10 ** 5000), 11, 14, 20, HUGE, 10 ** 5000):
            self.shown(False, 10, ONE, OTHER, DEEDS, mark)

    def test_deeds_that_are_none(self):
        for wrong in [
            (-1, 2, 3), (-2, 2, 3), (-2, -1, 3), (-1, 0, 3), (0, 3, 3), (0, 4, 3), (1, 3, 2), (2, 3, 1), (3, 4, 1),
            (0, 0, 1), (1, 1, 1), (2, 2, 1), (2, 1, 1), (1, 0, 1), (2, 0, -3), (1, -1, 2), (0, -1, 2), (0, 2, 0),
            (1, 2, 0), (0, 0, 0), (-1, 3, 0), (HUGE, HUGE + 1, 1), (-HUGE, 1, 1), (0, HUGE, 1), (-HUGE, HUGE, -HUGE),
            (-(10 ** 5000), 10 ** 5000, 10 ** 5000),
        ]:
            for deeds in ([wrong], [wrong] + DEEDS, DEEDS + [wrong], DEEDS[:1] + [wrong] + DEEDS[1:]):
                self.shown(False, 10, ONE, OTHER, deeds, MARK)
            for row in ([], [0], [0, 0]):
                self.shown(False, 10, row, row, [wrong], MARK)

    def test_deeds_that_would_do_if_they_were_deeds(self):
        # Each would turn the row as it should if its ends were cut off, or read from behind, or from end to count.
        self.shown(True, 10, [0, 0], [3, 3], [(0, 2, 3)], 5)
        for wrong in [(0, 3, 3), (-1, 2, 3), (-2, 2, 3), (-5, 9, 3), (2, 0, -3), (2, 0, 3)]:
            self.shown(False, 10, [0, 0], [3, 3], [wrong], 5)
        self.shown(True, 10, [0, 0], [0, 3], [(1, 2, 3)], 5)
        for wrong in [(-1, 2, 3), (1, 3, 3), (2, 1, -3), (1, 0, 3), (-1, 0, 3)]:
            self.shown(False, 10, [0, 0], [0, 3], [wrong], 5)
        # With steps of nought nothing is turned, and no step is taken.
        for row in ([0], [1, 2]):
            self.shown(True, 10, row, row, [], 5)
            self.shown(False, 10, row, row, [(0, 1, 0)], 5)
        self.shown(False, 10, ONE, OTHER, DEEDS + [(0, 2, 0)], MARK)
        # Between two wrong ones the dials come to rest as they should.
        self.shown(False, 10, ONE, OTHER, DEEDS + [(0, 3, 1), (0, 3, -1)], MARK)

    def test_no_deed_of_no_dials(self):
        for wrong in [(0, 0, 1), (0, 1, 1), (-1, 0, 1), (0, 0, 0)]:
            for mark in (0, 5, 10):
                self.shown(False, 10, [], [], [wrong], mark)

    def test_deeds_that_end_in_another_row(self):
        for deeds in [
            [], [(0, 2, 3)], [(1, 2, 2)], [(0, 2, 5)], [(0, 1, 5)], [(0, 2, 2), (1, 2, 3)], [(0, 2, 3), (1, 2, -2)],
            [(0, 2, -3), (1, 2, -2)], [(0, 1, 3), (1, 2, 2)], [(0, 2, 3), (0, 1, 2)],
        ]:
            for mark in range(11):
                self.shown(False, 10, ONE, OTHER, deeds, mark)
        # As far as it should be, but the other way.
        self.shown(True, 10, [4], [7], [(0, 1, 3)], 5)
        self.shown(False, 10, [4], [7], [(0, 1, -3)], 5)
        self.shown(False, 10, [7], [4], [(0, 1, 3)], 5)

    def test_too_many_steps(self):
        for deeds in [
            DEEDS + [(0, 1, 1), (0, 1, -1)], [(0, 1, 3), (1, 2, 5)], [(0, 2, 5), (0, 1, -2)], [(0, 2, -7), (1, 2, 2)],
            [(0, 2, 3), (1, 2, -8)], [(0, 2, 13), (1, 2, 2)], DEEDS + [(0, 2, 10)], DEEDS + [(0, 2, 10), (0, 2, -10)],
            [(0, 2, 3 + 10 * HUGE), (1, 2, 2)],
        ]:
            for mark in range(-1, 12):
                self.shown(False, 10, ONE, OTHER, deeds, mark)
        for size in (2, 3, 10, HUGE):
            for mark in (0, 1, size - 1, size):
                self.shown(False, size, [1], [1], [(0, 1, size)], mark)
                self.shown(False, size, [1], [1], [(0, 1, 1), (0, 1, -1)], mark)

    def test_all_of_few_dials(self):
        for size, dials in [(2, 1), (2, 2), (3, 1), (3, 2)]:
            parts = itertools.product(range(-1, dials + 2), range(-1, dials + 2), range(-2, 3))
            lists = [[]] + [[triple] for triple in parts]
            for one, other in itertools.product(all_rows(size, dials), repeat=2):
                for deeds, mark in itertools.product(lists, range(-1, size + 2)):
                    self.shown(shown_by_hand(size, one, other, deeds, mark), size, one, other, deeds, mark)

    def test_two_triples_of_few_dials(self):
        chance = random.Random(52)
        triples = list(itertools.product(range(4), range(4), range(-2, 3)))
        good = [(first, end, steps) for first, end, steps in triples if first < end <= 2 and steps != 0]
        seen = {True: 0, False: 0}
        for _ in range(12000):
            size = chance.choice((2, 3, 4, 5))
            one = some_row(chance, size, 2)
            deeds = [chance.choice(good), chance.choice(good)]
            other = dial_by_dial(size, one, deeds)
            if chance.random() < 0.3:
                deeds[chance.randrange(2)] = chance.choice(triples)
            mark = chance.randint(0, size)
            wanted = shown_by_hand(size, one, other, deeds, mark)
            seen[wanted] += 1
            self.shown(wanted, size, one, other, deeds, mark)
        self.assertGreater(seen[True], 100)
        self.assertGreater(seen[False], 100)

    def test_marks_about_the_gaps_of_many_dials(self):
        chance = random.Random(53)
        for size, dials in itertools.product(SIZES + (HUGE,), (1, 2, 5, 80)):
            one, other = some_row(chance, size, dials), some_row(chance, size, dials)
            deeds = best(size, one, other).deeds
            gaps = sorted(gaps_by_hand(size, one, other))
            for mark in [gap + by for gap in gaps for by in (-1, 0, 1)] + [0, size // 2, size, size + 1]:
                self.shown(shown_by_hand(size, one, other, deeds, mark), size, one, other, deeds, mark)

    def test_changed_deeds_of_many_dials(self):
        chance = random.Random(54)
        for size, dials in itertools.product((3, 10, 10 ** 20, HUGE), (2, 5, 80)):
            one = some_row(chance, size, dials)
            other = [(figure + 1 + place % 2) % size for place, figure in enumerate(one)]
            told = best(size, one, other)
            deeds, mark = told.deeds, told.mark
            self.shown(True, size, one, other, deeds[::-1], mark)
            first, end, steps = deeds[0]
            step = 1 if steps > 0 else -1
            parts = [(first, end, step)] + ([(first, end, steps - step)] if steps != step else [])
            self.shown(True, size, one, other, deeds[1:] + parts, mark)
            self.shown(False, size, one, other, deeds[1:], mark)
            self.shown(False, size, one, other, deeds + deeds[:1], mark)
            self.shown(False, size, one, other, deeds + [(0, dials, 1), (0, dials, -1)], mark)
            self.shown(False, size, one, other, deeds[1:] + [(first, end, steps - step * size)], mark)
            self.assertGreater(steps_by_hand(deeds), 0)

    def test_another_size_or_other_rows(self):
        told = Best(DEEDS, MARK)
        self.assertIs(told.shows(10, ONE, OTHER), True)
        self.assertIs(told.shows(10, [7, 9], [0, 4]), True)
        self.assertIs(told.shows(10, OTHER, ONE), False)
        self.assertIs(told.shows(10, ONE, [3, 4]), False)
        self.assertIs(told.shows(10, [0, 1], OTHER), False)
        self.assertIs(told.shows(10, [0, 0, 0], [3, 5, 0]), True)
        self.assertIs(told.shows(10, [0, 0, 0], [3, 5, 5]), False)
        self.assertIs(told.shows(10, [0], [3]), False)
        self.assertIs(told.shows(7, ONE, OTHER), shown_by_hand(7, ONE, OTHER, DEEDS, MARK))
        self.assertIs(told.shows(HUGE, ONE, OTHER), True)
        self.assertIs(told.shows(6, [0, 0], [3, 5]), False)

    def test_by_the_fields_as_they_stand(self):
        told = Best([], -1)
        self.assertIs(told.shows(10, ONE, OTHER), False)
        told.mark = MARK
        self.assertIs(told.shows(10, ONE, OTHER), False)
        told.deeds.append((0, 2, 3))
        self.assertIs(told.shows(10, ONE, OTHER), False)
        told.deeds.append((1, 2, 2))
        self.assertIs(told.shows(10, ONE, OTHER), True)
        told.mark = 11
        self.assertIs(told.shows(10, ONE, OTHER), False)
        told.mark = 3
        self.assertIs(told.shows(10, ONE, OTHER), True)
        told.deeds = [(1, 2, 2), (0, 2, 3)]
        self.assertIs(told.shows(10, ONE, OTHER), True)
        told.deeds[0] = (1, 3, 2)
        self.assertIs(told.shows(10, ONE, OTHER), False)
        told.deeds = []
        self.assertIs(told.shows(10, ONE, OTHER), False)
        self.assertIs(told.shows(10, OTHER, OTHER), True)

    def test_the_fields_of_what_is_told(self):
        told = best(10, ONE, OTHER)
        kept = list(told.deeds)
        told.deeds.clear()
        self.assertIs(told.shows(10, ONE, OTHER), False)
        told.deeds.extend(kept)
        self.assertIs(told.shows(10, ONE, OTHER), True)
        told.mark = 0
        self.assertIs(told.shows(10, ONE, OTHER), False)

    def test_nothing_is_changed(self):
        for deeds, mark in [(DEEDS, MARK), ([], 0), ([(0, 9, 1)], 3), ([(0, 1, 1), (0, 1, 0)], -4)]:
            told = Best(deeds, mark)
            held = told.deeds
            one, other = copy.copy(ONE), copy.copy(OTHER)
            first = told.shows(10, one, other)
            self.assertIs(told.shows(10, one, other), first)
            self.assertEqual((one, other), (ONE, OTHER))
            self.assertIs(told.deeds, held)
            self.assertEqual((told.deeds, told.mark), (deeds, mark))


if __name__ == "__main__":
    unittest.main()
