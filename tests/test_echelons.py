import random
import unittest
from copy import deepcopy

from evennotes.echelons import made_of, noughts, settled, worth
from oracles import added, is_whole, rank, scaled, sum_of, units, why_not_settled

FIGURES_30 = 10 ** 29
FIGURES_200 = 10 ** 199


def drawn_line(draw, long, most):
    return tuple(draw.choice((0, draw.randint(-most, most), draw.randint(-most, most))) for place in range(long))


def drawn_lines(draw, long, count, free, most):
    """Lines of which at most so many are free of one another."""
    roots = [drawn_line(draw, long, most) for k in range(free)]
    return [sum_of(long, [draw.randint(-3, 3) for root in roots], roots) for k in range(count)]


def mixed(draw, lines):
    """Lines of which the same ones are made: in another order, some twice, so many times, with others added."""
    told = [scaled(draw.choice((1, -1, 2, -7, 12)), line) for line in lines]
    if lines:
        told += [scaled(draw.choice((1, 0, -5)), draw.choice(lines)) for k in range(3)]
        for k in range(3):
            one, other = draw.randrange(len(told)), draw.randrange(len(told))
            if one != other:
                told[one] = added(told[one], scaled(draw.randint(-9, 9), told[other]))
        told += draw.sample(lines, len(lines) // 2)
    draw.shuffle(told)
    return told


class Worth(unittest.TestCase):
    def test_by_hand(self):
        self.assertEqual(worth((3,), (-4,)), -12)
        self.assertEqual(worth((1, 2, 3), (4, 5, 6)), 32)
        self.assertEqual(worth((1, 0, -2), (5, 9, 3)), -1)
        self.assertEqual(worth((1, 2, 3, 4, 5, 6, 7), (7, 6, 5, 4, 3, 2, 1)), 84)
        self.assertEqual(worth((0, 0), (8, 9)), 0)
        self.assertEqual(worth((1, 1), (1, -1)), 0)

    def test_drawn_lines_of_all_lengths(self):
        draw = random.Random(4)
        for most in (1, 9, 10 ** 9, 10 * FIGURES_30, 10 * FIGURES_200):
            for long in range(1, 8):
                for again in range(20):
                    one, other = drawn_line(draw, long, most), drawn_line(draw, long, most)
                    due = 0
                    for place in range(long):
                        due += one[place] * other[place]
                    self.assertEqual(worth(one, other), due)
                    self.assertEqual(worth(other, one), due)
                    self.assertTrue(is_whole(worth(one, other)))

    def test_great_numbers_to_the_last_figure(self):
        for great in (FIGURES_30, FIGURES_200, 10 ** 1999):
            self.assertEqual(worth((great, 1), (great, 1)), great * great + 1)
            self.assertEqual(worth((great + 1, great), (great, -great)), great)
            self.assertEqual(worth((-great, 5), (3, 0)), -3 * great)


class Settled(unittest.TestCase):
    def hold(self, long, lines):
        kept = deepcopy(lines)
        told = settled(lines)
        self.assertEqual(lines, kept)
        self.assertIsNone(why_not_settled(told, long), (lines, told))
        free = rank(lines)
        self.assertEqual(len(told), free, (lines, told))
        self.assertEqual(rank(lines + told), free, (lines, told))
        return told

    def test_by_hand(self):
        self.assertEqual(settled([]), [])
        self.assertEqual(settled([(0,)]), [])
        self.assertEqual(settled([(0, 0, 0), (0, 0, 0)]), [])
        self.assertEqual(settled([(-7,)]), [(1,)])
        self.assertEqual(settled([(0, 6, 0)]), [(0, 1, 0)])
        self.assertEqual(settled([(4, -6, 0)]), [(-2, 3, 0)])
        self.assertEqual(settled([(4, -6, 0), (-2, 3, 0)]), [(-2, 3, 0)])
        self.assertEqual(settled([(1, 1, 1), (1, 2, 3)]), [(2, 1, 0), (-1, 0, 1)])
        self.assertEqual(settled([(0, 2, 3), (1, 0, 0)]), [(1, 0, 0), (0, 2, 3)])
        self.assertEqual(settled([(5, 2, 3), (4, 0, 0)]), [(1, 0, 0), (0, 2, 3)])
        self.assertEqual(settled([(3, 4), (5, 6)]), [(1, 0), (0, 1)])

    def test_the_head_is_the_last_place(self):
        self.assertEqual(settled([(2, -1)]), [(-2, 1)])
        self.assertEqual(settled([(1, 1, 0), (0, 1, 1)]), [(1, 1, 0), (-1, 0, 1)])

    def test_only_lines_with_numbers_of_one_divisor_are_lowered(self):
        self.assertEqual(settled([(6, 10, 15)]), [(6, 10, 15)])
        self.assertEqual(settled([(12, 20, 30)]), [(6, 10, 15)])
        self.assertEqual(settled([(2, 0, 3), (0, 2, 5)]), settled([(0, 2, 5), (2, 0, 3)]))

    def test_drawn_lists(self):
        draw = random.Random(5)
        for most in (1, 3, 50, 10 * FIGURES_30):
            for long in range(1, 8):
                for free in range(long + 1):
                    for count in (0, 1, free, 2 * long + 1):
                        self.hold(long, drawn_lines(draw, long, count, free, most))

    def test_one_line_and_noughts_alone(self):
        draw = random.Random(6)
        for long in range(1, 8):
            self.assertEqual(self.hold(long, [(0,) * long]), [])
            self.assertEqual(self.hold(long, [(0,) * long] * 5), [])
            for again in range(10):
                self.hold(long, [drawn_line(draw, long, 60)])

    def test_two_hundred_lines(self):
        draw = random.Random(7)
        for most in (2, 10 * FIGURES_30):
            for long, free in ((7, 7), (7, 5), (7, 1), (4, 3), (1, 1)):
                self.hold(long, drawn_lines(draw, long, 200, free, most))

    def test_two_thousand_figures(self):
        draw = random.Random(8)
        roots = [drawn_line(draw, 7, 9) for k in range(4)]
        lines = [sum_of(7, [draw.randint(0, 10 ** 1990) for root in roots], roots) for k in range(12)]
        self.assertEqual(settled(lines), settled(roots))
        whole = [tuple(draw.randint(-10 ** 1999, 10 ** 1999) for place in range(5)) for k in range(5)]
        self.assertEqual(settled(whole), units(5, 1))

    def test_the_same_list_however_the_lines_are_put(self):
        draw = random.Random(9)
        for again in range(300):
            long = draw.randint(1, 7)
            lines = drawn_lines(draw, long, draw.randint(0, 9), draw.randint(0, long), draw.choice((2, 99, FIGURES_30)))
            told = settled(lines)
            self.assertEqual(settled(mixed(draw, lines)), told)
            self.assertEqual(settled(lines + lines), told)
            self.assertEqual(settled(lines[::-1]), told)
            self.assertEqual(settled(told), told)

    def test_what_is_told_is_the_askers_own(self):
        lines = [(1, 0), (0, 1)]
        told = settled(lines)
        self.assertIsNot(told, lines)
        told.append("more")
        told[0] = "other"
        self.assertEqual(lines, [(1, 0), (0, 1)])
        self.assertEqual(settled(lines), [(1, 0), (0, 1)])
        empty = settled([])
        empty.append("more")
        self.assertEqual(settled([]), [])

    def test_what_is_done_afterwards_changes_nothing(self):
        lines = [(1, 2, 3)]
        told = settled(lines)
        lines.append((1, 1, 1))
        self.assertEqual(told, [(1, 2, 3)])


class MadeOf(unittest.TestCase):
    def test_made_once(self):
        self.assertEqual(made_of([(2, 3)], (2, 3)), (1, [1]))
        self.assertEqual(made_of([(2, 3)], (-4, -6)), (1, [-2]))
        self.assertEqual(made_of([(1, 2, 0), (1, 0, 3)], (2, 2, 3)), (1, [1, 1]))
        self.assertEqual(made_of([(1, 2, 0), (2, 0, 3)], (0, -4, 3)), (1, [-2, 1]))
        self.assertEqual(made_of([(2, 3, 0), (2, 0, 5)], (16, 9, 25)), (1, [3, 5]))

    def test_made_some_times(self):
        self.assertEqual(made_of([(1, 2, 0), (1, 0, 2)], (1, 1, 1)), (2, [1, 1]))
        self.assertEqual(made_of([(1, 4, 0), (1, 0, 4)], (-1, -1, -3)), (4, [-1, -3]))
        self.assertEqual(made_of([(5, 6, 0), (1, 0, 6)], (1, 1, 1)), (6, [1, 1]))
        self.assertEqual(made_of([(5, 6, 0), (1, 0, 6)], (2, 2, 2)), (3, [1, 1]))
        self.assertEqual(made_of([(5, 6, 0), (1, 0, 6)], (3, 3, 3)), (2, [1, 1]))
        self.assertEqual(made_of([(5, 6, 0), (1, 0, 6)], (6, 6, 6)), (1, [1, 1]))
        self.assertEqual(made_of([(3, 4, 0, 0), (1, 0, 6, 0), (1, 0, 0, 12)], (1, 1, 1, 1)), (12, [3, 2, 1]))

    def test_not_made(self):
        self.assertIsNone(made_of([(2, 3)], (2, 4)))
        self.assertIsNone(made_of([(2, 3)], (1, 0)))
        self.assertIsNone(made_of([(1, 2, 0), (1, 0, 3)], (3, 2, 3)))
        self.assertIsNone(made_of([(0, 1, 0)], (0, 5, 1)))

    def test_noughts(self):
        self.assertEqual(made_of([], (0,)), (1, []))
        self.assertEqual(made_of([], (0, 0, 0)), (1, []))
        self.assertEqual(made_of([(1, 2)], (0, 0)), (1, [0]))
        self.assertEqual(made_of([(1, 2, 0), (1, 0, 2)], (0, 0, 0)), (1, [0, 0]))

    def test_of_no_lines_no_other_line_is_made(self):
        self.assertIsNone(made_of([], (1,)))
        self.assertIsNone(made_of([], (0, 0, -1)))

    def hold(self, lines, line):
        long = len(line)
        kept = list(lines)
        told = made_of(lines, line)
        self.assertEqual(lines, kept)
        if rank(lines + [line]) > len(lines):
            self.assertIsNone(told)
            return None
        self.assertIsInstance(told, tuple)
        times, multiples = told
        self.assertTrue(is_whole(times) and times >= 1)
        self.assertIsInstance(multiples, list)
        self.assertEqual(len(multiples), len(lines))
        self.assertTrue(all(is_whole(many) for many in multiples))
        self.assertEqual(scaled(times, line), sum_of(long, multiples, lines))
        return told

    def test_drawn_lines(self):
        draw = random.Random(10)
        found = {}
        for again in range(1500):
            long = draw.randint(1, 7)
            lines = settled(drawn_lines(draw, long, draw.randint(0, 8), draw.randint(0, long), draw.choice((2, 5, 30))))
            line = drawn_line(draw, long, 4)
            if draw.random() < 0.7:
                line = sum_of(long, [draw.randint(-6, 6) for row in lines], lines)
                divisor = draw.choice([many for many in range(1, 200) if all(n % many == 0 for n in line)])
                line = tuple(number // divisor for number in line)
            told = self.hold(lines, line)
            key = None if told is None else min(told[0], 2)
            found[key] = found.get(key, 0) + 1
            if told is not None:
                # Fewer times are never enough: the multiples at the heads would be no whole numbers.
                for times in range(1, min(told[0], 50)):
                    self.assertFalse(all(many * times % told[0] == 0 for many in told[1]))
        self.assertTrue(min(found.get(key, 0) for key in (None, 1, 2)) > 20, found)

    def test_great_numbers(self):
        draw = random.Random(11)
        for most in (10 * FIGURES_30, FIGURES_200):
            for again in range(20):
                long = draw.randint(2, 7)
                lines = settled(drawn_lines(draw, long, 3, 3, most))
                line = sum_of(long, [draw.randint(-most, most) for row in lines], lines)
                self.assertIsNotNone(self.hold(lines, line))
                if len(lines) < long:
                    free = [unit for unit in units(long, 1) if rank(lines + [unit]) > len(lines)][0]
                    self.assertIsNone(self.hold(lines, added(line, free)))

    def test_what_is_told_is_the_askers_own(self):
        lines = [(1, 2, 0), (1, 0, 2)]
        told = made_of(lines, (1, 1, 1))
        told[1].append("more")
        self.assertEqual(made_of(lines, (1, 1, 1)), (2, [1, 1]))
        empty = made_of([], (0,))
        empty[1].append("more")
        self.assertEqual(made_of([], (0,)), (1, []))
        lines.clear()
        self.assertEqual(told, (2, [1, 1, "more"]))


class Noughts(unittest.TestCase):
    def hold(self, long, lines):
        kept = list(lines)
        told = noughts(long, lines)
        self.assertEqual(lines, kept)
        self.assertIsNone(why_not_settled(told, long), (lines, told))
        self.assertEqual(len(told), long - rank(lines), (lines, told))
        for line in lines:
            for other in told:
                self.assertEqual(sum(a * b for a, b in zip(line, other)), 0)
        self.assertEqual(noughts(long, told), settled(lines))
        return told

    def test_of_no_lines(self):
        for long in range(1, 8):
            self.assertEqual(noughts(long, []), units(long, 1))
            self.assertEqual(noughts(long, [(0,) * long]), units(long, 1))

    def test_lines_that_leave_none(self):
        for long in range(1, 8):
            self.assertEqual(noughts(long, units(long, 3)), [])
        self.assertEqual(noughts(2, [(1, 2), (3, 4)]), [])

    def test_by_hand(self):
        self.assertEqual(noughts(2, [(1, 1)]), [(-1, 1)])
        self.assertEqual(noughts(3, [(1, 2, 3)]), [(-2, 1, 0), (-3, 0, 1)])
        self.assertEqual(noughts(3, [(2, 3, 0)]), [(-3, 2, 0), (0, 0, 1)])
        self.assertEqual(noughts(3, [(1, 1, 1), (1, 2, 3)]), [(1, -2, 1)])
        self.assertEqual(noughts(1, [(5,)]), [])

    def test_drawn_lists(self):
        draw = random.Random(12)
        for most in (1, 3, 50, 10 * FIGURES_30):
            for long in range(1, 8):
                for free in range(long + 1):
                    for count in (0, 1, free, 2 * long + 1):
                        self.hold(long, drawn_lines(draw, long, count, free, most))

    def test_two_hundred_lines(self):
        draw = random.Random(13)
        for free in (1, 4, 6, 7):
            self.hold(7, drawn_lines(draw, 7, 200, free, 10 ** 9))

    def test_what_is_told_is_the_askers_own(self):
        lines = [(1, 1)]
        told = noughts(2, lines)
        told.clear()
        self.assertEqual(noughts(2, lines), [(-1, 1)])
        empty = noughts(2, [])
        empty.append("more")
        self.assertEqual(noughts(2, []), [(1, 0), (0, 1)])
        later = noughts(2, lines)
        lines.clear()
        self.assertEqual(later, [(-1, 1)])


if __name__ == "__main__":
    unittest.main()
