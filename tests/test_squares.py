import random
import unittest
from itertools import product

from evennotes.squares import ground, table, whole_sum
from oracles import (
    is_whole, is_whole_sum, lines_below, size_of, size_of_ground, sum_of, sums_by_rest, units, why_no_square)

FIGURES_30 = 10 ** 29
PRIMES = (2, 3, 5, 7, 999983)
POWERS = (4, 8, 9, 27, 2 ** 19, 3 ** 12, 5 ** 8)
PRODUCTS = (6, 10, 12, 30, 36, 720720, 999999, 1000000)


def drawn_lines(draw, long, count, most):
    return [tuple(draw.choice((0, draw.randint(-most, most), draw.randint(-most, most))) for place in range(long))
            for k in range(count)]


class Ground(unittest.TestCase):
    def hold(self, long, lines, rest):
        kept = list(lines)
        told = ground(long, lines, rest)
        self.assertEqual(lines, kept)
        self.assertIsNone(why_no_square(told, long), (lines, rest, told))
        for line in lines + units(long, rest):
            self.assertTrue(is_whole_sum(told, line), (lines, rest, told, line))
        return told

    def test_of_no_lines(self):
        for rest in PRIMES + POWERS + PRODUCTS:
            for long in range(1, 8):
                self.assertEqual(ground(long, [], rest), units(long, rest))
                self.assertEqual(ground(long, [(0,) * long, (rest,) * long], rest), units(long, rest))

    def test_by_hand(self):
        self.assertEqual(ground(1, [(4,)], 6), [(2,)])
        self.assertEqual(ground(1, [(-1,)], 1000000), [(1,)])
        self.assertEqual(ground(2, [(1, 1)], 2), [(2, 0), (1, 1)])
        self.assertEqual(ground(2, [(1, 2)], 4), [(2, 0), (1, 2)])
        self.assertEqual(ground(2, [(-1, 0)], 5), [(1, 0), (0, 5)])
        self.assertEqual(ground(2, [(3, 1), (0, 2)], 6), [(6, 0), (3, 1)])
        self.assertEqual(ground(3, [(1, 1, 1), (0, 0, 2)], 4), [(4, 0, 0), (2, 2, 0), (1, 1, 1)])

    def test_just_the_whole_sums(self):
        draw = random.Random(20)
        for long, rest in ((1, 2), (1, 12), (2, 2), (2, 7), (2, 12), (3, 2), (3, 4), (3, 6), (3, 9), (4, 2), (4, 4),
                           (5, 3), (6, 2), (7, 2)):
            for again in range(12):
                lines = drawn_lines(draw, long, draw.randint(0, long + 1), draw.choice((1, rest, 1000)))
                told = self.hold(long, lines, rest)
                due = sums_by_rest(long, lines, rest)
                for line in lines_below(long, rest):
                    self.assertEqual(whole_sum(told, line) is not None, line in due, (lines, rest, line))

    def test_no_finer_and_no_coarser_by_any_rest(self):
        draw = random.Random(21)
        for rest in PRIMES + POWERS + PRODUCTS:
            for long in range(1, 8):
                for most in (5, rest, 10 * FIGURES_30):
                    lines = drawn_lines(draw, long, draw.randint(0, 2), most)
                    told = self.hold(long, lines, rest)
                    self.assertEqual(size_of(told), size_of_ground(long, lines, rest), (lines, rest))

    def test_divisors_of_the_rest_in_the_lines(self):
        draw = random.Random(22)
        for again in range(150):
            rest = draw.choice((8, 36, 720720, 1000000))
            divisors = [many for many in range(1, 200) if rest % many == 0]
            long = draw.randint(1, 4)
            lines = [tuple(draw.choice(divisors) * draw.randint(-4, 4) for place in range(long)) for k in range(3)]
            told = self.hold(long, lines, rest)
            self.assertEqual(size_of(told), size_of_ground(long, lines, rest), (lines, rest))

    def test_the_same_for_lines_that_come_to_the_same(self):
        draw = random.Random(23)
        for again in range(200):
            rest = draw.choice(PRIMES + POWERS + PRODUCTS)
            long = draw.randint(1, 7)
            lines = drawn_lines(draw, long, draw.randint(1, 6), rest)
            told = ground(long, lines, rest)
            moved = [tuple(number + rest * draw.randint(-FIGURES_30, FIGURES_30) for number in line) for line in lines]
            self.assertEqual(ground(long, moved[::-1] + lines, rest), told)
            self.assertEqual(ground(long, [sum_of(long, [1] * len(lines), lines)] + lines, rest), told)
            self.assertEqual(ground(long, told, rest), told)

    def test_two_hundred_lines(self):
        draw = random.Random(24)
        for rest in (2, 720720, 1000000):
            self.hold(7, drawn_lines(draw, 7, 200, FIGURES_30), rest)
            self.hold(7, [tuple(30 * number for number in line) for line in drawn_lines(draw, 7, 200, 9999)], rest)

    def test_what_is_told_is_the_askers_own(self):
        lines = [(1, 1)]
        told = ground(2, lines, 2)
        told[0] = "other"
        told.append("more")
        self.assertEqual(ground(2, lines, 2), [(2, 0), (1, 1)])
        self.assertEqual(lines, [(1, 1)])
        square = ground(2, [], 2)
        again = ground(2, square, 2)
        self.assertIsNot(again, square)
        square.clear()
        self.assertEqual(again, [(2, 0), (0, 2)])


class Table(unittest.TestCase):
    def hold(self, square, rest):
        long = len(square)
        kept = list(square)
        told = table(square, rest)
        self.assertEqual(square, kept)
        self.assertIsNone(why_no_square(told, long), (square, rest, told))
        for one, other in product(square, told):
            self.assertEqual(sum(a * b for a, b in zip(one, other)) % rest, 0, (square, rest, told))
        # No line with the due worths is missing: the two sizes together are always this.
        self.assertEqual(size_of(square) * size_of(told), rest ** long, (square, rest, told))
        self.assertEqual(table(told, rest), square)
        return told

    def test_by_hand(self):
        self.assertEqual(table([(6,)], 6), [(1,)])
        self.assertEqual(table([(1,)], 6), [(6,)])
        self.assertEqual(table([(2,)], 6), [(3,)])
        self.assertEqual(table([(2, 0), (1, 1)], 2), [(2, 0), (1, 1)])
        self.assertEqual(table([(1, 0), (0, 5)], 5), [(5, 0), (0, 1)])
        self.assertEqual(table([(2, 0), (1, 2)], 4), [(4, 0), (2, 1)])
        self.assertEqual(table(units(3, 7), 7), units(3, 1))
        self.assertEqual(table(units(3, 1), 7), units(3, 7))

    def test_just_the_lines_with_such_worths(self):
        draw = random.Random(25)
        for long, rest in ((1, 2), (1, 12), (2, 2), (2, 7), (2, 12), (3, 2), (3, 4), (3, 6), (3, 9), (4, 2), (4, 4),
                           (5, 3), (6, 2), (7, 2)):
            for again in range(8):
                square = ground(long, drawn_lines(draw, long, draw.randint(0, long), rest), rest)
                told = self.hold(square, rest)
                for line in lines_below(long, rest):
                    due = all(sum(a * b for a, b in zip(line, other)) % rest == 0 for other in square)
                    self.assertEqual(whole_sum(told, line) is not None, due, (square, rest, line))

    def test_by_all_sorts_of_rests(self):
        draw = random.Random(26)
        for rest in PRIMES + POWERS + PRODUCTS:
            for long in range(1, 8):
                self.hold(ground(long, [], rest), rest)
                for count in (1, 2, long, long + 2):
                    self.hold(ground(long, drawn_lines(draw, long, count, 10 * FIGURES_30), rest), rest)
                    self.hold(ground(long, drawn_lines(draw, long, count, 12), rest), rest)

    def test_divisors_of_the_rest(self):
        draw = random.Random(27)
        for again in range(300):
            rest = draw.choice((8, 36, 720720, 1000000))
            divisors = [many for many in range(1, 2000) if rest % many == 0]
            long = draw.randint(1, 7)
            lines = [tuple(draw.choice(divisors) * draw.randint(-4, 4) for place in range(long)) for k in range(4)]
            self.hold(ground(long, lines, rest), rest)

    def test_what_is_told_is_the_askers_own(self):
        square = [(2, 0), (1, 1)]
        told = table(square, 2)
        told[0] = "other"
        told.append("more")
        self.assertEqual(table(square, 2), [(2, 0), (1, 1)])
        later = table(square, 2)
        square.clear()
        self.assertEqual(later, [(2, 0), (1, 1)])


class WholeSum(unittest.TestCase):
    def hold(self, square, line):
        kept = list(square)
        told = whole_sum(square, line)
        self.assertEqual(square, kept)
        if not is_whole_sum(square, line):
            self.assertIsNone(told, (square, line))
            return None
        self.assertIsInstance(told, list)
        self.assertTrue(len(told) == len(square) and all(is_whole(many) for many in told))
        self.assertEqual(sum_of(len(line), told, square), line)
        return told

    def test_by_hand(self):
        self.assertEqual(whole_sum([(3,)], (12,)), [4])
        self.assertEqual(whole_sum([(3,)], (-3,)), [-1])
        self.assertIsNone(whole_sum([(3,)], (-4,)))
        self.assertEqual(whole_sum([(2, 0), (1, 3)], (0, 0)), [0, 0])
        self.assertEqual(whole_sum([(2, 0), (1, 3)], (4, 6)), [1, 2])
        self.assertEqual(whole_sum([(2, 0), (1, 3)], (-1, -3)), [0, -1])
        self.assertIsNone(whole_sum([(2, 0), (1, 3)], (5, 6)))
        self.assertIsNone(whole_sum([(2, 0), (1, 3)], (4, 5)))

    def test_sums_are_told_again(self):
        draw = random.Random(28)
        for rest in PRIMES + POWERS + PRODUCTS:
            for long in range(1, 8):
                square = ground(long, drawn_lines(draw, long, draw.randint(0, 3), rest), rest)
                for most in (3, 10 * FIGURES_30, 10 ** 1000):
                    multiples = [draw.randint(-most, most) for line in square]
                    self.assertEqual(self.hold(square, sum_of(long, multiples, square)), multiples)

    def test_other_lines_are_none(self):
        draw = random.Random(29)
        found = 0
        for again in range(500):
            rest = draw.choice(PRIMES + POWERS + PRODUCTS)
            long = draw.randint(1, 7)
            square = ground(long, drawn_lines(draw, long, draw.randint(0, 3), rest), rest)
            line = drawn_lines(draw, long, 1, draw.choice((3, rest, FIGURES_30)))[0]
            found += self.hold(square, line) is None
        self.assertGreater(found, 100)

    def test_what_is_told_is_the_askers_own(self):
        square = [(2, 0), (1, 3)]
        told = whole_sum(square, (4, 6))
        told.clear()
        self.assertEqual(whole_sum(square, (4, 6)), [1, 2])
        later = whole_sum(square, (4, 6))
        square.clear()
        self.assertEqual(later, [1, 2])


if __name__ == "__main__":
    unittest.main()
