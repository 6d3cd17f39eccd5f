"""The greatest worth under bounds, on which the greatest contrast rests: what is told proves itself."""

import random
import unittest
from itertools import product

from clearsheets.simplex import greatest


def dot(one, other):
    return sum(first * second for first, second in zip(one, other, strict=True))


class GreatestTest(unittest.TestCase):

    def check(self, rows, limits, worths, free):
        found = greatest(rows, limits, worths, free)
        if found is None:
            self.check_endless(rows, worths, free)
            return False
        bottom, unknowns, weights = found
        self.assertGreaterEqual(bottom, 1)
        for row, limit in zip(rows, limits, strict=True):
            self.assertLessEqual(dot(row, unknowns), limit * bottom)
        self.assertTrue(all(open_ended or number >= 0 for number, open_ended in zip(unknowns, free, strict=True)))
        self.assertTrue(all(weight >= 0 for weight in weights))
        for at, worth in enumerate(worths):
            asked = dot([row[at] for row in rows], weights)
            if free[at]:
                self.assertEqual(asked, worth * bottom)
            else:
                self.assertGreaterEqual(asked, worth * bottom)
        self.assertEqual(dot(worths, unknowns), dot(limits, weights))
        return True

    def check_endless(self, rows, worths, free):
        """Check that there is a way on which the worth grows and no bound is ever met."""
        for steps in product(range(-4, 5), repeat=len(worths)):
            if all(step >= 0 or open_ended for step, open_ended in zip(steps, free)) and dot(worths, steps) > 0:
                if all(dot(row, steps) <= 0 for row in rows):
                    return
        self.fail((rows, worths, free))

    def test_small_bounds(self):
        told = [self.check([[one, two], [three, 1]], [limit, 1], [worth, -1], [free, True])
                for one, two, three, limit, worth, free in product((-1, 0, 1), (-1, 1), (-1, 0, 1), (0, 2), (-1, 0, 2),
                                                                   (True, False))]
        self.assertIn(True, told)
        self.assertIn(False, told)

    def test_bounds_drawn_by_chance(self):
        chance = random.Random(81)
        told = []
        for _ in range(1500):
            many, count = chance.randint(1, 3), chance.randint(1, 6)
            rows = [[chance.choice((-1, 0, 1, 1)) for _ in range(many)] for _ in range(count)]
            limits = [chance.choice((0, 0, 1, 3)) for _ in range(count)]
            worths = [chance.choice((-1, 0, 1, 2)) for _ in range(many)]
            told.append(self.check(rows, limits, worths, [chance.random() < 0.5 for _ in range(many)]))
        self.assertGreater(told.count(True), 100)
        self.assertGreater(told.count(False), 100)

    def test_many_bounds_that_meet_in_a_point(self):
        chance = random.Random(82)
        for many in (4, 6, 8):
            for _ in range(40):
                rows = [[chance.choice((-1, 0, 1)) for _ in range(many)] for _ in range(2 * many)]
                box = [[1 if at == place else 0 for at in range(many)] for place in range(many)]
                floor = [[-number for number in row] for row in box]
                worths = [chance.choice((-2, -1, 1, 2)) for _ in range(many)]
                limits = [0] * len(rows) + [5] * many + [5] * many
                free = [chance.random() < 0.5 for _ in range(many)]
                self.assertTrue(self.check(rows + box + floor, limits, worths, free))

    def test_unknowns_that_fall_below_nothing(self):
        self.assertEqual(greatest([[-1]], [3], [-2], [True]), (1, [-3], [2]))
        self.assertIsNone(greatest([[1]], [3], [-2], [True]))
        self.assertEqual(greatest([[1]], [3], [-2], [False]), (1, [0], [0]))

    def test_arguments_stay(self):
        rows, limits, worths, free = [[1, -1], [0, 1]], [0, 1], [1, 0], [True, False]
        self.assertEqual(greatest(rows, limits, worths, free), greatest(rows, limits, worths, free))
        self.assertEqual((rows, limits, worths, free), ([[1, -1], [0, 1]], [0, 1], [1, 0], [True, False]))


if __name__ == "__main__":
    unittest.main()
