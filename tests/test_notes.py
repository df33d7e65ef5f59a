import random
import unittest
from copy import deepcopy
from math import gcd

from draws import HALT, SKIP, added_to, drawn_program, drawn_run, great_line, great_program
from evennotes.notes import comings, notes, said
from oracles import (
    added, change_lists, is_made_of, is_whole, laid_by_signs, places_come_to, product_sum, rank, scaled,
    stands_by_place, sum_of, walked, why_no_book, why_no_told_run, why_not_kept, why_not_settled)

NINE = (0, 1, -1, 999999999, -999999999, 123456789)

# Box 2 is always the sum of boxes 0 and 1, whatever is taken and however often.
SUM_KEPT = (3, [[("loop", [("either", [("take", 0), ("set", 2, (0, 1, 1, 0))],
                            [added_to(3, 1, 5), added_to(3, 2, 5)])])]])
# Behind the halt no run comes, nor within and behind what stands there; where the loop ends, one does.
NEVER = (1, [[("take", 0), ("either", [HALT, ("loop", [added_to(1, 0, 1)]), ("either", [SKIP], [])], [SKIP]),
              ("set", 0, (4, 0)), HALT, ("loop", [SKIP]), SKIP]])
MIRRORED = (6, [[("loop", [("set", 0, (7, 999999, -2, 3, 0, 0, 0)), ("set", 3, (7, 0, 0, 0, 999999, -2, 3)),
                           ("set", 1, (0, 5, 0, -999998, 0, 0, 0)), ("set", 4, (0, 0, 0, 0, 5, 0, -999998)),
                           ("set", 2, (1, 1, 1, 1, 0, 0, 0)), ("set", 5, (1, 0, 0, 0, 1, 1, 1))])]])


class Held(unittest.TestCase):
    def hold(self, program):
        """The notes are just what holds: each comes of others by each step, and all others break by the book."""
        kept = deepcopy(program)
        book, told = comings(program), notes(program)
        self.assertEqual(program, kept)
        many = program[0]
        self.assertIsNone(why_no_book(program, book), program)
        self.assertIsNone(why_not_kept(program, told, is_made_of, lambda number: number == 0), program)
        come = places_come_to(program)
        for place, stands in enumerate(stands_by_place(program, book)):
            if place not in come:
                self.assertEqual((told[place], stands), (None, []), program)
                continue
            self.assertIsNone(why_not_settled(told[place], many + 1), program)
            self.assertEqual(len(stands), many + 1 - len(told[place]), program)
            self.assertEqual(rank(stands), len(stands), program)
            self.assertTrue(all(product_sum(line, stand) == 0 for line in told[place] for stand in stands), program)
        return told

    def hold_along(self, program, told, moves):
        for place, stand in walked(program, moves):
            self.assertTrue(all(product_sum(line, stand) == 0 for line in told[place]), program)


class Notes(Held):
    def test_by_hand(self):
        for program, due in (
                ((0, [[]]), [[]]),
                ((0, [[SKIP, ("loop", [])]]), [[], [], []]),
                ((1, [[]]), [[(0, 1)]]),
                ((2, [[]]), [[(0, 1, 0), (0, 0, 1)]]),
                ((1, [[("set", 0, (-3, 0))]]), [[(0, 1)], [(3, 1)]]),
                ((1, [[("take", 0), ("set", 0, (7, 0))]]), [[(0, 1)], [], [(-7, 1)]]),
                ((1, [[("loop", [added_to(1, 0, 1)])]]), [[(0, 1)], [], []]),
                ((1, [[("loop", [("set", 0, (0, 5))])]]), [[(0, 1)], [(0, 1)], [(0, 1)]]),
                ((2, [[("take", 0), ("set", 1, (1, 2, 0))]]),
                 [[(0, 1, 0), (0, 0, 1)], [(0, 0, 1)], [(-1, -2, 1)]]),
                ((2, [[("loop", [added_to(2, 0, 2), added_to(2, 1, 3)])]]),
                 [[(0, 1, 0), (0, 0, 1)], [(0, -3, 2)], [(6, -3, 2)], [(0, -3, 2)]]),
                ((1, [[("either", [("set", 0, (4, 0))], [("set", 0, (6, 0))])]]),
                 [[(0, 1)], [(-4, 1)], [(-6, 1)], []]),
                ((1, [[("either", [("set", 0, (4, 0))], [("set", 0, (4, 0))])]]),
                 [[(0, 1)], [(-4, 1)], [(-4, 1)], [(-4, 1)]]),
                ((2, [[("either", [("set", 0, (1, 0, 0))], [("set", 1, (2, 0, 0))])]]),
                 [[(0, 1, 0), (0, 0, 1)], [(-1, 1, 0), (0, 0, 1)], [(0, 1, 0), (-2, 0, 1)], [(-2, 2, 1)]]),
                ((1, [[("take", 0), HALT, SKIP]]), [[(0, 1)], [], None, None])):
            self.assertEqual(self.hold(program), due, program)

    def test_no_run_comes_there(self):
        told = self.hold(NEVER)
        self.assertEqual(told, [[(0, 1)], [], None, None, None, None, None, [], [], [(-4, 1)], None, None, None, None])
        self.assertEqual(self.hold((2, [[HALT, ("either", [("take", 0)], [HALT]), ("loop", [SKIP])]])),
                         [[(0, 1, 0), (0, 0, 1)]] + [None] * 6)
        self.assertEqual(self.hold((0, [[("loop", [HALT, SKIP]), SKIP]])), [[], [], None, None, []])
        self.assertEqual(self.hold((0, [[("either", [HALT], [HALT]), SKIP]])), [[], None, None, None, None])
        self.assertEqual(self.hold((0, [[("call", 1), SKIP], [HALT]])), [[], None, None])

    def test_a_sum_that_is_kept(self):
        end = laid_by_signs(SUM_KEPT)[2]
        self.assertEqual(self.hold(SUM_KEPT)[end], [(0, -1, -1, 1)])

    def test_loops_within_loops(self):
        program = (3, [[("loop", [added_to(3, 0, 1), ("loop", [added_to(3, 1, 1), ("loop", [added_to(3, 2, 4)])])])]])
        self.assertEqual(self.hold(program)[-1], [])
        program = (3, [[("loop", [added_to(3, 0, 1), ("loop", [added_to(3, 1, 1), added_to(3, 2, 1)]),
                                  added_to(3, 2, -3)])]])
        self.assertEqual(self.hold(program)[1], [(0, 3, -1, 1)])

    def test_boxes_set_by_one_another(self):
        swap = (3, [[("take", 0), ("take", 1), ("set", 2, (0, 1, 1, 0)),
                     ("loop", [("set", 0, (0, -1, 0, 1)), ("set", 1, (0, -1, 0, 1))])]])
        self.assertEqual(self.hold(swap)[laid_by_signs(swap)[2]], [(0, -1, -1, 1)])
        # The sums of the numbers so far: what holds takes several rounds to be seen.
        chain = (5, [[("loop", [("set", k, tuple(int(j in (k + 1, k + 2)) for j in range(6))) for k in range(4)]
                       + [added_to(5, 4, 1)])]])
        self.assertEqual(self.hold(chain)[1], [])
        shifted = (4, [[("set", 3, (1, 0, 0, 0, 0)), ("loop", [("set", 0, (0, 0, 1, 0, 0)), ("set", 1, (0, 0, 0, 1, 0)),
                                                              ("set", 2, (0, 0, 0, 0, 1))])]])
        self.assertEqual(self.hold(shifted)[2], [(-1, 0, 0, 0, 1)])

    def test_six_boxes_and_six_figures(self):
        told = self.hold(MIRRORED)
        self.assertEqual(told[1], [(0, -1, 0, 0, 1, 0, 0), (0, 0, -1, 0, 0, 1, 0), (0, 0, 0, -1, 0, 0, 1)])
        line = (999999, -999998, 999997, 0, 100000, -100001, 0)
        program = (6, [[("take", 0), ("take", 1), ("take", 3), ("take", 4), ("set", 5, line)]])
        self.assertEqual(self.hold(program)[-1], [(0, 0, 0, 1, 0, 0, 0), scaled(-1, line[:-1]) + (1,)])
        draw = random.Random(120)
        for again in range(6):
            program = great_program(draw)
            told = self.hold(program)
            self.assertTrue(any(told[place] for place in range(3)))
            self.hold_along(program, told, drawn_run(draw, program, 120))

    def test_a_long_way_of_six_figures(self):
        draw = random.Random(121)
        straight = (6, [[("set", draw.randrange(6), great_line(draw, 6)) for again in range(39)]])
        told = self.hold(straight)
        stand = walked(straight, [(step, None) for step in range(39)])[-1][1]
        self.assertEqual(told[-1], [(-stand[k],) + tuple(int(j == k) for j in range(1, 7)) for k in range(1, 7)])
        self.assertGreater(max(map(abs, stand)), 10 ** 100)

    def test_the_longest_loop_of_six_figures(self):
        draw = random.Random(122)
        program = (6, [[("loop", [("set", k % 6, great_line(draw, 6)) for k in range(38)])]])
        book = comings(program)
        self.assertIsNone(why_no_book(program, book))
        self.assertEqual([len(stands) for stands in stands_by_place(program, book)][:2], [1, 7])
        self.assertEqual(notes(program)[-1], [])

    def test_forty_places(self):
        self.hold((6, [[("loop", [("take", k % 6), added_to(6, (k + 1) % 6, k)]) for k in range(13)]]))
        self.assertEqual(self.hold((1, [[("either", [], [])] * 38 + [("take", 0)]])), [[(0, 1)]] * 39 + [[]])

    def test_drawn_programs(self):
        draw = random.Random(123)
        sizes = {}
        for again in range(500):
            program = drawn_program(draw, halts=draw.choice((0, 0.05, 0.2)))
            told = self.hold(program)
            for lines in told:
                size = None if lines is None else len(lines)
                sizes[size] = sizes.get(size, 0) + 1
            for run in range(4):
                self.hold_along(program, told, drawn_run(draw, program, 50, NINE))
        self.assertEqual(set(sizes), {None, 0, 1, 2, 3, 4, 5, 6})
        self.assertGreater(min(sizes.values()), 30, sizes)


class Said(Held):
    def hold_said(self, program, place, line, told):
        kept = deepcopy(program)
        answer = said(program, place, line)
        self.assertEqual(program, kept)
        self.assertIsInstance(answer, tuple)
        if told[place] is None:
            self.assertEqual(answer, ("never",))
        elif is_made_of(told[place], line):
            name, times, multiples = answer
            self.assertEqual(name, "holds")
            self.assertTrue(is_whole(times) and times >= 1)
            self.assertTrue(isinstance(multiples, list) and all(map(is_whole, multiples)))
            self.assertEqual(len(multiples), len(told[place]))
            self.assertEqual(sum_of(len(line), multiples, told[place]), scaled(times, line))
            # The notes are free of one another, so a lesser number of times would divide all of these.
            self.assertEqual(gcd(times, *multiples), 1)
        else:
            name, moves = answer
            self.assertEqual(name, "breaks")
            self.assertIsNone(why_no_told_run(program, moves), (program, moves))
            last, stand = walked(program, moves)[-1]
            self.assertEqual(last, place)
            self.assertNotEqual(product_sum(line, stand), 0)
        return answer

    def test_never(self):
        told = notes(NEVER)
        for place, lines in enumerate(told):
            for line in ((0, 0), (1, 0), (-4, 1)):
                answer = self.hold_said(NEVER, place, line, told)
                self.assertEqual(answer == ("never",), lines is None)

    def test_holds_by_hand(self):
        program = (2, [[("loop", [added_to(2, 0, 2), added_to(2, 1, 3)])]])
        self.assertEqual(said(program, 1, (0, -3, 2)), ("holds", 1, [1]))
        self.assertEqual(said(program, 1, (0, 6, -4)), ("holds", 1, [-2]))
        self.assertEqual(said(program, 1, (0, 0, 0)), ("holds", 1, [0]))
        self.assertEqual(said(program, 0, (0, 5, -7)), ("holds", 1, [5, -7]))
        self.assertEqual(said(program, 2, (6, -3, 2)), ("holds", 1, [1]))
        self.assertEqual(said(program, 2, (-12, 6, -4)), ("holds", 1, [-2]))

    def test_more_than_one_time(self):
        # Twice box 1 is thrice box 0, twice box 2 is five times box 0: so half of each makes this line.
        program = (3, [[("loop", [added_to(3, 0, 2), added_to(3, 1, 3), added_to(3, 2, 5)])]])
        self.assertEqual(notes(program)[1], [(0, -3, 2, 0), (0, -5, 0, 2)])
        self.assertEqual(said(program, 1, (0, -4, 1, 1)), ("holds", 2, [1, 1]))
        self.assertEqual(said(program, 1, (0, -8, 2, 2)), ("holds", 1, [1, 1]))
        self.assertEqual(said(program, 1, (0, 1, 1, -1)), ("holds", 2, [1, -1]))
        self.assertEqual(said(program, 1, (0, 0, 0, 0)), ("holds", 1, [0, 0]))

    def test_where_there_are_no_notes(self):
        program = (1, [[("take", 0)]])
        self.assertEqual(said(program, 1, (0, 0)), ("holds", 1, []))
        self.assertEqual(said((0, [[]]), 0, (0,)), ("holds", 1, []))
        self.assertEqual(said((0, [[]]), 0, (3,)), ("breaks", []))
        self.assertEqual(said(program, 1, (0, 1)), ("breaks", [(0, 1)]))
        for line in ((5, 0), (1, 1), (-1, 1), (999999999, -999999999), (0, -1)):
            self.hold_said(program, 1, line, [[(0, 1)], []])

    def test_the_empty_run_breaks_at_the_begin(self):
        for many in range(7):
            self.assertEqual(said((many, [[SKIP]]), 0, (1,) + (5,) * many), ("breaks", []))
            self.assertEqual(said((many, [[SKIP]]), 0, (-999999999,) + (0,) * many), ("breaks", []))
            self.assertEqual(said((many, [[SKIP]]), 0, (0,) + (5,) * many), ("holds", 1, [5] * many))

    def test_what_breaks_in_late_rounds_alone(self):
        # Box 0 is another number than 0 from the fourth round on only.
        program = (4, [[("loop", [("set", k, tuple(int(j == k + 2) for j in range(5))) for k in range(3)]
                        + [("set", 3, (1, 0, 0, 0, 0))])]])
        told = self.hold(program)
        answer = self.hold_said(program, 1, (0, 1, 0, 0, 0), told)
        self.assertEqual(answer[0], "breaks")
        self.assertGreaterEqual(len(answer[1]), 21)

    def test_great_numbers(self):
        told = notes(MIRRORED)
        great = 10 ** 1990
        line = sum_of(7, [great, -3, great + 1], told[1])
        self.assertEqual(self.hold_said(MIRRORED, 1, line, told), ("holds", 1, [great, -3, great + 1]))
        self.assertEqual(self.hold_said(MIRRORED, 1, added(line, (0, 0, 0, 0, 0, 0, 1)), told)[0], "breaks")

    def test_drawn_lines(self):
        draw = random.Random(124)
        names = {"never": 0, "holds": 0, "breaks": 0}
        for again in range(120):
            program = drawn_program(draw, halts=draw.choice((0, 0.2)))
            told = notes(program)
            for place in draw.sample(range(len(told)), min(4, len(told))):
                lines = told[place] or []
                sums = [sum_of(program[0] + 1, [draw.randint(-6, 6) for line in lines], lines) for k in range(2)]
                sums = [tuple(number // (gcd(*line) or 1) for number in line) for line in sums]
                free = [tuple(draw.choice((0, 1, -1, 999999999, draw.randint(-9, 9))) for k in range(program[0] + 1))
                        for k in range(2)]
                for line in sums + free + [added(sums[0], free[0]), (0,) * (program[0] + 1)]:
                    names[self.hold_said(program, place, line, told)[0]] += 1
        self.assertGreater(min(names.values()), 200, names)


class TakenAsItIsThen(unittest.TestCase):
    def test_what_is_told_is_the_askers_own(self):
        program = (2, [[("loop", [added_to(2, 0, 2), added_to(2, 1, 3)]), HALT, SKIP]])
        for asked in (comings, notes, lambda each: said(each, 1, (0, -3, 2)), lambda each: said(each, 1, (0, 1, 0))):
            told = asked(program)
            due = deepcopy(told)
            change_lists(told)
            self.assertNotEqual(told, due)
            self.assertEqual(asked(program), due)

    def test_no_two_lists_are_one(self):
        told = notes((2, [[("either", [], []), SKIP, ("loop", [])]]))
        self.assertEqual(told, [[(0, 1, 0), (0, 0, 1)]] * 4)
        told[1].clear()
        self.assertEqual(told, [[(0, 1, 0), (0, 0, 1)], [], [(0, 1, 0), (0, 0, 1)], [(0, 1, 0), (0, 0, 1)]])

    def test_a_program_that_is_changed_is_taken_as_it_is_then(self):
        rows = [added_to(1, 0, 1)]
        program = (1, [[("loop", rows)]])
        first = (comings(program), notes(program), said(program, 1, (0, 1)))
        due = deepcopy(first)
        rows[0] = ("set", 0, (0, 5))
        self.assertEqual(first, due)
        self.assertEqual(first[1], [[(0, 1)], [], []])
        self.assertEqual(notes(program), [[(0, 1)], [(0, 1)], [(0, 1)]])
        self.assertEqual(comings(program), [(0, None, None), (1, 0, (0, None)), (2, 1, (1, None))])
        self.assertEqual(said(program, 1, (0, 1)), ("holds", 1, [1]))


if __name__ == "__main__":
    unittest.main()
