import random
import unittest
from copy import deepcopy

from draws import HALT, SKIP, added_to, drawn_program, drawn_run, great_program, small_line
from evennotes.notes import notes
from evennotes.rests import comings_by, said_by, tables
from evennotes.squares import ground, table
from oracles import (
    added, all_stands_by_rest, change_lists, is_whole, is_whole_sum, laid_by_signs, lines_below, places_come_to,
    product_sum, scaled, size_of, stands_by_place, sum_of, units, walked, why_no_book, why_no_square, why_no_told_run,
    why_not_kept)

PRIMES = (2, 3, 7, 999983)
POWERS = (9, 3 ** 12, 5 ** 8, 7 ** 3)
POWERS_OF_TWO = (4, 8, 2 ** 19)
PRODUCTS = (6, 12, 720720, 999999, 1000000)
RESTS = PRIMES + POWERS + POWERS_OF_TWO + PRODUCTS
COPRIME = ((2, 3), (4, 9), (8, 125), (1000, 999), (64, 15625), (2, 499979), (7, 720), (16, 81))

NEVER = (1, [[("take", 0), ("either", [HALT, ("loop", [added_to(1, 0, 1)])], [SKIP]), HALT, ("loop", [SKIP]), SKIP]])
# Box 0 grows by 6 or by 10, and box 1 is ahead of it by multiples of 15.
GROWS = (2, [[("loop", [("either", [added_to(2, 0, 6), added_to(2, 1, 6)], [added_to(2, 0, 10), added_to(2, 1, 10)]),
                        ("loop", [added_to(2, 1, 15)])])]])
# At the end box 0 is 0 or a power of two, the greater ones by shorter ways.
HALVES = (1, [[("either", [("set", 0, (2 ** k, 0))], []) for k in range(18, -1, -1)]])


class Held(unittest.TestCase):
    def hold(self, program, rest):
        """The tables are just what holds: each line comes of others by each step, all others break by the book."""
        kept = deepcopy(program)
        book, told = comings_by(program, rest), tables(program, rest)
        self.assertEqual(program, kept)
        long = program[0] + 1
        self.assertIsNone(why_no_book(program, book), (program, rest))
        self.assertIsNone(why_not_kept(program, told, is_whole_sum, lambda number: number % rest == 0), (program, rest))
        come = places_come_to(program)
        for place, stands in enumerate(stands_by_place(program, book)):
            if place not in come:
                self.assertEqual((told[place], stands), (None, []), (program, rest))
                continue
            self.assertIsNone(why_no_square(told[place], long), (program, rest))
            self.hold_comings(stands, told[place], long, rest)
        return told

    def hold_comings(self, stands, square, long, rest):
        self.assertTrue(1 <= len(stands) <= 20 * long)
        grounds = [ground(long, stands[:count], rest) for count in range(len(stands) + 1)]
        for stand, so_far in zip(stands, grounds):
            self.assertFalse(is_whole_sum(so_far, stand))
        self.assertEqual(table(grounds[-1], rest), square)
        self.assertTrue(all(product_sum(line, stand) % rest == 0 for line in square for stand in stands))
        self.assertEqual(size_of(square) * size_of(grounds[-1]), rest ** long)

    def hold_along(self, program, told, rest, moves):
        for place, stand in walked(program, moves):
            self.assertTrue(all(product_sum(line, stand) % rest == 0 for line in told[place]), (program, rest))


class Tables(Held):
    def test_by_hand(self):
        for program, rest, due in (
                ((0, [[]]), 2, [[(2,)]]),
                ((0, [[SKIP, HALT]]), 1000000, [[(1000000,)], [(1000000,)], None]),
                ((1, [[]]), 7, [[(7, 0), (0, 1)]]),
                ((1, [[("take", 0)]]), 7, [[(7, 0), (0, 1)], units(2, 7)]),
                ((1, [[("set", 0, (3, 0))]]), 7, [[(7, 0), (0, 1)], [(7, 0), (4, 1)]]),
                ((1, [[("loop", [added_to(1, 0, 2)])]]), 4, [[(4, 0), (0, 1)], [(4, 0), (0, 2)], [(4, 0), (0, 2)]]),
                ((1, [[("loop", [added_to(1, 0, 6)])]]), 4, [[(4, 0), (0, 1)], [(4, 0), (0, 2)], [(4, 0), (0, 2)]]),
                ((1, [[("loop", [added_to(1, 0, 6)])]]), 9, [[(9, 0), (0, 1)], [(9, 0), (0, 3)], [(9, 0), (0, 3)]]),
                ((1, [[("loop", [added_to(1, 0, 6)])]]), 6, [[(6, 0), (0, 1)], [(6, 0), (0, 1)], [(6, 0), (0, 1)]]),
                ((1, [[("loop", [added_to(1, 0, 6)])]]), 5, [[(5, 0), (0, 1)], units(2, 5), units(2, 5)]),
                ((1, [[("set", 0, (1, 0)), ("loop", [added_to(1, 0, -2)])]]), 2,
                 [[(2, 0), (0, 1)], [(2, 0), (1, 1)], [(2, 0), (1, 1)], [(2, 0), (1, 1)]]),
                ((1, [[("set", 0, (1, 0)), ("loop", [("set", 0, (0, 4))])]]), 3,
                 [[(3, 0), (0, 1)], [(3, 0), (2, 1)], [(3, 0), (2, 1)], [(3, 0), (2, 1)]]),
                ((2, [[("take", 0), ("set", 1, (0, 2, 0))]]), 4,
                 [[(4, 0, 0), (0, 1, 0), (0, 0, 1)], [(4, 0, 0), (0, 4, 0), (0, 0, 1)],
                  [(4, 0, 0), (0, 4, 0), (0, 2, 1)]])):
            self.assertEqual(self.hold(program, rest), due, (program, rest))

    def test_no_run_comes_there(self):
        for rest in (2, 6, 1000000):
            told = self.hold(NEVER, rest)
            self.assertEqual([place for place, square in enumerate(told) if square is None], [2, 3, 4, 7, 8, 9, 10])
            self.assertEqual(told[6], units(2, rest))

    def test_all_sorts_of_rests(self):
        for rest in RESTS:
            told = self.hold(GROWS, rest)
            at = told[laid_by_signs(GROWS)[2]]
            # Box 0 runs through the multiples of 2, box 1 less box 0 through those of 15.
            self.assertTrue(is_whole_sum(at, (0, rest if rest % 2 else rest // 2, 0)), rest)
            fifteenth = rest // (3 if rest % 3 == 0 else 1) // (5 if rest % 5 == 0 else 1)
            self.assertTrue(is_whole_sum(at, (0, -fifteenth, fifteenth)), rest)
            self.assertEqual(size_of(at), rest * (rest if rest % 2 else rest // 2) * fifteenth, rest)

    def test_halves(self):
        for rest in (2 ** 19, 2, 4, 1000000, 999983):
            told = self.hold(HALVES, rest)
            for count in range(1, 20):
                # Behind so many choices, the least power of two is this.
                least = 2 ** (19 - count)
                self.assertEqual(told[2 * count], table(ground(2, [(1, 0), (0, least)], rest), rest), (count, rest))
        self.assertEqual(len(stands_by_place(HALVES, comings_by(HALVES, 2 ** 19))[-1]), 20)

    def test_against_all_lines_below_a_small_rest(self):
        draw = random.Random(130)
        for many, rest, times in ((0, 2, 4), (0, 12, 4), (1, 2, 25), (1, 4, 25), (1, 6, 25), (1, 9, 25), (1, 12, 20),
                                  (2, 2, 30), (2, 3, 25), (2, 4, 25), (2, 6, 12), (3, 2, 25), (3, 3, 10), (4, 2, 15),
                                  (5, 2, 6)):
            for again in range(times):
                program = drawn_program(draw, many)
                told = self.hold(program, rest)
                for square, stands in zip(told, all_stands_by_rest(program, rest)):
                    self.assertEqual(square is None, not stands)
                    if square is not None:
                        self.hold_against_all_lines(square, stands, many + 1, rest)

    def hold_against_all_lines(self, square, stands, long, rest):
        # The stands that tell something beyond the others: a line that breaks with any does so with one of these.
        telling = []
        for stand in sorted(stands):
            if not is_whole_sum(ground(long, telling, rest), stand):
                telling.append(stand)
        self.assertTrue(all(product_sum(line, stand) % rest == 0 for line in square for stand in stands))
        for line in lines_below(long, rest):
            due = all(product_sum(line, stand) % rest == 0 for stand in telling)
            self.assertEqual(is_whole_sum(square, line), due, (square, line, rest))

    def test_drawn_programs(self):
        draw = random.Random(131)
        sizes = {}
        for again in range(300):
            program = drawn_program(draw, halts=draw.choice((0, 0.05, 0.2)))
            rest = draw.choice(RESTS)
            told = self.hold(program, rest)
            lines = notes(program)
            for place, square in enumerate(told):
                self.assertEqual(square is None, lines[place] is None)
                self.assertTrue(all(is_whole_sum(square, line) for line in lines[place] or []), (program, rest))
            for run in range(3):
                self.hold_along(program, told, rest, drawn_run(draw, program, 50))
            sizes[program[0]] = sizes.get(program[0], 0) + 1
        self.assertEqual(set(sizes), set(range(7)))

    def test_six_boxes_and_six_figures(self):
        draw = random.Random(132)
        for rest in RESTS:
            program = great_program(draw)
            told = self.hold(program, rest)
            self.hold_along(program, told, rest, drawn_run(draw, program, 60))
            for square, lines in zip(told, notes(program)):
                self.assertTrue(all(is_whole_sum(square, line) for line in lines))

    def test_forty_places(self):
        for rest in (2, 720720, 1000000):
            self.hold((6, [[("loop", [("take", k % 6), added_to(6, (k + 1) % 6, k)]) for k in range(13)]]), rest)

    def test_products_of_rests_without_a_common_divisor(self):
        draw = random.Random(133)
        for again in range(80):
            program = drawn_program(draw, halts=0.02)
            one, other = draw.choice(COPRIME)
            by_one, by_other, by_both = (tables(program, rest) for rest in (one, other, one * other))
            for place, square in enumerate(by_both):
                if square is None:
                    self.assertEqual((by_one[place], by_other[place]), (None, None))
                    continue
                for line in square:
                    self.assertTrue(is_whole_sum(by_one[place], line) and is_whole_sum(by_other[place], line))
                # A line of the one, so many times as the other rest is, holds by both rests.
                for line in by_one[place]:
                    self.assertTrue(is_whole_sum(square, scaled(other, line)), (program, one, other))
                for line in by_other[place]:
                    self.assertTrue(is_whole_sum(square, scaled(one, line)), (program, one, other))
                self.assertEqual(size_of(square), size_of(by_one[place]) * size_of(by_other[place]))


class SaidBy(Held):
    def hold_said(self, program, place, line, rest, told):
        kept = deepcopy(program)
        answer = said_by(program, place, line, rest)
        self.assertEqual(program, kept)
        self.assertIsInstance(answer, tuple)
        if told[place] is None:
            self.assertEqual(answer, ("never",))
        elif is_whole_sum(told[place], line):
            name, multiples = answer
            self.assertEqual(name, "holds")
            self.assertTrue(isinstance(multiples, list) and all(map(is_whole, multiples)))
            self.assertEqual(len(multiples), len(line))
            self.assertEqual(sum_of(len(line), multiples, told[place]), line)
        else:
            name, moves = answer
            self.assertEqual(name, "breaks")
            self.assertIsNone(why_no_told_run(program, moves), (program, moves))
            self.assertLessEqual(len(moves), 6000)
            last, stand = walked(program, moves)[-1]
            self.assertEqual(last, place)
            self.assertNotEqual(product_sum(line, stand) % rest, 0)
        return answer

    def test_by_hand(self):
        evens = (1, [[("loop", [added_to(1, 0, 2)])]])
        self.assertEqual(said_by(evens, 1, (0, 2), 4), ("holds", [0, 1]))
        self.assertEqual(said_by(evens, 1, (8, -6), 4), ("holds", [2, -3]))
        self.assertEqual(said_by(evens, 1, (0, 0), 4), ("holds", [0, 0]))
        self.assertEqual(said_by(evens, 0, (0, 1), 4), ("holds", [0, 1]))
        self.assertEqual(said_by(evens, 1, (2, 0), 4), ("breaks", [(0, None)]))
        self.assertEqual(said_by(evens, 1, (0, 1), 4), ("breaks", [(0, None), (1, None), (2, None)]))
        self.assertEqual(said_by((0, [[]]), 0, (6,), 3), ("holds", [2]))
        self.assertEqual(said_by((0, [[]]), 0, (7,), 3), ("breaks", []))
        self.assertEqual(said_by((1, [[("take", 0)]]), 1, (0, 1), 3), ("breaks", [(0, 1)]))
        odd = (1, [[("set", 0, (1, 0)), ("loop", [added_to(1, 0, -2)])]])
        self.assertEqual(said_by(odd, 2, (1, 1), 2), ("holds", [0, 1]))
        self.assertEqual(said_by(odd, 2, (-1, 1), 2), ("holds", [-1, 1]))

    def test_never(self):
        for rest in (2, 9, 1000000):
            told = tables(NEVER, rest)
            for place, square in enumerate(told):
                for line in ((0, 0), (1, 0), (rest, rest)):
                    answer = self.hold_said(NEVER, place, line, rest, told)
                    self.assertEqual(answer == ("never",), square is None)

    def test_the_empty_run_breaks_at_the_begin(self):
        for rest in RESTS:
            for many in range(7):
                program = (many, [[SKIP]])
                self.assertEqual(said_by(program, 0, (1,) + (rest,) * many, rest), ("breaks", []))
                self.assertEqual(said_by(program, 0, (rest - 1,) + (0,) * many, rest), ("breaks", []))
                self.assertEqual(said_by(program, 0, (rest,) + (1,) * many, rest), ("holds", [1] * (many + 1)))

    def test_what_holds_by_one_rest_and_not_by_another(self):
        sixes = (1, [[("loop", [added_to(1, 0, 6)])]])
        for rest in RESTS:
            told = tables(sixes, rest)
            self.assertEqual(self.hold_said(sixes, 1, (0, 1), rest, told)[0], "holds" if 6 % rest == 0 else "breaks")

    def test_the_least_half_breaks(self):
        told = tables(HALVES, 2 ** 19)
        self.assertEqual(self.hold_said(HALVES, 38, (0, 2 ** 18), 2 ** 19, told)[0], "breaks")
        self.assertEqual(self.hold_said(HALVES, 36, (0, 2 ** 18), 2 ** 19, told)[0], "holds")

    def test_great_numbers(self):
        program = (2, [[("take", 0), ("set", 1, (0, 999999, 0))]])
        told = tables(program, 1000000)
        great = 10 ** 1990
        line = sum_of(3, [great, -7, great + 1], told[2])
        self.assertEqual(self.hold_said(program, 2, line, 1000000, told), ("holds", [great, -7, great + 1]))
        self.assertEqual(self.hold_said(program, 2, added(line, (0, 1, 0)), 1000000, told)[0], "breaks")

    def test_drawn_lines(self):
        draw = random.Random(134)
        names = {"never": 0, "holds": 0, "breaks": 0}
        for again in range(120):
            program = drawn_program(draw, halts=draw.choice((0, 0.2)))
            rest = draw.choice(RESTS)
            told = tables(program, rest)
            for place in draw.sample(range(len(told)), min(4, len(told))):
                lines = told[place] or units(program[0] + 1, rest)
                free = [tuple(draw.choice((0, 1, rest, -rest, 999999999)) for line in lines),
                        small_line(draw, program[0])]
                made = sum_of(len(lines), [draw.randint(-9, 9) for line in lines], lines)
                for line in free + [made, added(made, free[0]), (0,) * len(lines)]:
                    names[self.hold_said(program, place, line, rest, told)[0]] += 1
        self.assertGreater(min(names.values()), 200, names)


class TakenAsItIsThen(unittest.TestCase):
    def test_what_is_told_is_the_askers_own(self):
        program = (2, [[("loop", [added_to(2, 0, 2), added_to(2, 1, 3)]), HALT, SKIP]])
        for asked in (lambda each: comings_by(each, 6), lambda each: tables(each, 6),
                      lambda each: said_by(each, 1, (6, 0, 2), 6), lambda each: said_by(each, 1, (0, 1, 0), 6)):
            told = asked(program)
            due = deepcopy(told)
            change_lists(told)
            self.assertNotEqual(told, due)
            self.assertEqual(asked(program), due)

    def test_no_two_lists_are_one(self):
        told = tables((1, [[("either", [], []), SKIP]]), 5)
        self.assertEqual(told, [[(5, 0), (0, 1)]] * 3)
        told[1].clear()
        self.assertEqual(told, [[(5, 0), (0, 1)], [], [(5, 0), (0, 1)]])

    def test_a_program_that_is_changed_is_taken_as_it_is_then(self):
        rows = [added_to(1, 0, 2)]
        program = (1, [[("loop", rows)]])
        first = (comings_by(program, 4), tables(program, 4), said_by(program, 1, (0, 2), 4))
        due = deepcopy(first)
        rows[0] = added_to(1, 0, 1)
        self.assertEqual(first, due)
        self.assertEqual(first[1], [[(4, 0), (0, 1)], [(4, 0), (0, 2)], [(4, 0), (0, 2)]])
        self.assertEqual(first[2], ("holds", [0, 1]))
        self.assertEqual(tables(program, 4), [[(4, 0), (0, 1)], units(2, 4), units(2, 4)])
        self.assertEqual(said_by(program, 1, (0, 2), 4)[0], "breaks")


if __name__ == "__main__":
    unittest.main()
