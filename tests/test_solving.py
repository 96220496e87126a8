import copy
import unittest
from fractions import Fraction

from plainly import chances, pair
from tiercask.solving import lowered, solved


RINGS = [
    ([5, 0], [
        [(0, 1), (2, 1), (-1, 1), (-6, 1), (1, 3), (1, 1), (0, 1)],
        [(1, 1), (1, 1), (-4, 3), (-6, 1), (4, 1), (0, 1), (0, 1)],
        [(0, 1), (2, 1), (4, 1), (3, 1), (-2, 1), (0, 1), (0, 1)],
    ]),
    ([0, 5], [
        [(1, 1), (4, 1), (-2, 1), (-2, 1), (1, 1), (0, 1), (0, 1)],
        [(0, 1), (1, 3), (-1, 1), (-2, 1), (6, 1), (1, 1), (0, 1)],
        [(0, 1), (-3, 1), (5, 1), (2, 1), (1, 1), (0, 1), (0, 1)],
    ]),
    ([5, 1], [
        [(3, 1), (0, 1), (3, 1), (1, 2), (-1, 1), (1, 1), (0, 1)],
        [(3, 1), (1, 1), (4, 1), (6, 1), (1, 1), (0, 1), (0, 1)],
        [(2, 1), (0, 1), (1, 1), (-2, 1), (-2, 1), (0, 1), (0, 1)],
    ]),
]


class SolvedTest(unittest.TestCase):
    def test_equations(self):
        self.assertEqual(solved([]), [])
        self.assertEqual(solved([[(2, 1), (3, 1)]]), [(3, 2)])
        self.assertEqual(solved([[(0, 1), (2, 1), (3, 1)], [(1, 2), (1, 1), (1, 1)]]), [(-1, 1), (3, 2)])

    def test_some(self):
        for chance in chances(30):
            many = chance.randint(1, 6)
            unknowns = [Fraction(chance.randint(-5, 5), chance.randint(1, 4)) for _ in range(many)]
            left = [[Fraction(chance.randint(-3, 3)) for _ in range(many)] for _ in range(many)]
            for k in range(many):
                left[k][k] += 20
            chance.shuffle(left)
            rows = [[pair(number) for number in row] + [pair(sum([a * b for a, b in zip(row, unknowns)]))] for row in left]
            before = copy.deepcopy(rows)
            self.assertEqual(solved(rows), [pair(number) for number in unknowns])
            self.assertEqual(rows, before)


class LoweredTest(unittest.TestCase):
    def test_it_ends_where_others_turn_in_a_ring(self):
        # A row of numbers for which the steepest column, taken always, comes back to where it began.
        rows = [[(1, 4), (-60, 1), (-1, 25), (9, 1), (1, 1), (0, 1), (0, 1), (0, 1)],
                [(1, 2), (-90, 1), (-1, 50), (3, 1), (0, 1), (1, 1), (0, 1), (0, 1)],
                [(0, 1), (0, 1), (1, 1), (0, 1), (0, 1), (0, 1), (1, 1), (1, 1)],
                [(-3, 4), (150, 1), (-1, 50), (6, 1), (0, 1), (0, 1), (0, 1), (0, 1)]]
        told, basis = lowered(rows, [4, 5, 6], 7)
        self.assertEqual(told[3][7], (1, 20))
        self.assertEqual(sorted(basis)[0], 0)

    def test_it_ends_where_another_choice_of_rows_turns_in_a_ring(self):
        # Rows that all come to 0: if of those that bind alike always the first, the last, or the one that holds the
        # last column is taken, the basis comes back to where it began.
        for basis, rows in RINGS:
            with self.subTest(basis=basis):
                told, last = lowered(rows, basis, len(rows[0]) - 1)
                self.assertTrue(all(cost[0] >= 0 for cost in told[-1]))
                self.assertEqual(len(set(last)), len(basis))


if __name__ == "__main__":
    unittest.main()
