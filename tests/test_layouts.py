import random
import unittest
from copy import deepcopy

from draws import HALT, SKIP, added_to, deep, drawn_program, great_program
from evennotes.layouts import laid
from oracles import change_lists, is_a_program, is_whole, laid_by_signs

SET = ("set", 0, (3, -2))
TAKE = ("take", 0)


class Laid(unittest.TestCase):
    def hold(self, program, due=None):
        self.assertTrue(is_a_program(program), program)
        kept = deepcopy(program)
        told = laid(program)
        self.assertEqual(program, kept)
        self.assertIsInstance(told, tuple)
        count, steps, end = told
        self.assertTrue(is_whole(count) and is_whole(end))
        self.assertIsInstance(steps, list)
        for step in steps:
            self.assertIsInstance(step, tuple)
            self.assertTrue(is_whole(step[0]) and is_whole(step[1]) and isinstance(step[2], tuple), step)
        self.assertEqual(told, laid_by_signs(program))
        if due is not None:
            self.assertEqual(told, due)
        return told

    def rows(self, rows, due):
        self.hold((1, [rows]), due)

    def test_nothing(self):
        self.hold((0, [[]]), (1, [], 0))
        self.hold((6, [[], [SKIP]]), (1, [], 0))
        self.hold((0, [[], [], [], []]), (1, [], 0))

    def test_plain_rows(self):
        for row in (SET, TAKE, SKIP):
            self.rows([row], (2, [(0, 1, row)], 1))
            self.rows([SKIP, row], (3, [(0, 1, SKIP), (1, 2, row)], 2))
            self.rows([row, row, TAKE], (4, [(0, 1, row), (1, 2, row), (2, 3, TAKE)], 3))

    def test_halt(self):
        self.rows([HALT], (2, [], 1))
        self.rows([HALT, HALT], (3, [], 2))
        self.rows([SET, HALT], (3, [(0, 1, SET)], 2))
        self.rows([HALT, SET, SKIP], (4, [(1, 2, SET), (2, 3, SKIP)], 3))
        self.rows([TAKE, HALT, ("loop", [])], (4, [(0, 1, TAKE), (2, 3, SKIP), (3, 3, SKIP)], 3))
        self.rows([("loop", [HALT])], (3, [(0, 1, SKIP), (2, 1, SKIP)], 1))
        self.rows([("either", [HALT], [SET])], (4, [(0, 2, SET), (1, 3, SKIP), (2, 3, SKIP)], 3))
        self.rows([("either", [HALT], [HALT]), SET], (5, [(1, 3, SKIP), (2, 3, SKIP), (3, 4, SET)], 4))

    def test_either(self):
        self.rows([("either", [], [])], (2, [(0, 1, SKIP), (0, 1, SKIP)], 1))
        self.rows([("either", [SET], [])], (3, [(0, 1, SET), (1, 2, SKIP), (0, 2, SKIP)], 2))
        self.rows([("either", [], [SET])], (3, [(0, 1, SET), (0, 2, SKIP), (1, 2, SKIP)], 2))
        self.rows([("either", [SET], [TAKE, SKIP])],
                  (5, [(0, 1, SET), (0, 2, TAKE), (2, 3, SKIP), (1, 4, SKIP), (3, 4, SKIP)], 4))
        self.rows([TAKE, ("either", [SET, SET], [SKIP]), SET],
                  (7, [(0, 1, TAKE), (1, 2, SET), (2, 3, SET), (1, 4, SKIP), (3, 5, SKIP), (4, 5, SKIP), (5, 6, SET)],
                   6))
        self.rows([("either", [("either", [SET], [])], [("either", [], [TAKE])])],
                  (6, [(0, 1, SET), (1, 2, SKIP), (0, 2, SKIP), (0, 3, TAKE), (0, 4, SKIP), (3, 4, SKIP),
                       (2, 5, SKIP), (4, 5, SKIP)], 5))

    def test_loop(self):
        self.rows([("loop", [])], (2, [(0, 1, SKIP), (1, 1, SKIP)], 1))
        self.rows([("loop", [SET])], (3, [(0, 1, SKIP), (1, 2, SET), (2, 1, SKIP)], 1))
        self.rows([("loop", [SET, TAKE]), SKIP],
                  (5, [(0, 1, SKIP), (1, 2, SET), (2, 3, TAKE), (3, 1, SKIP), (1, 4, SKIP)], 4))
        self.rows([("loop", []), ("loop", [])], (3, [(0, 1, SKIP), (1, 1, SKIP), (1, 2, SKIP), (2, 2, SKIP)], 2))
        self.rows([SET, ("loop", [("loop", [TAKE]), SKIP])],
                  (6, [(0, 1, SET), (1, 2, SKIP), (2, 3, SKIP), (3, 4, TAKE), (4, 3, SKIP), (3, 5, SKIP),
                       (5, 2, SKIP)], 2))
        self.rows([("loop", [("either", [SET], [])])],
                  (4, [(0, 1, SKIP), (1, 2, SET), (2, 3, SKIP), (1, 3, SKIP), (3, 1, SKIP)], 1))

    def test_call(self):
        self.hold((1, [[("call", 1)], [SET]]), (2, [(0, 1, SET)], 1))
        self.hold((1, [[("call", 1), TAKE, ("call", 1)], [SET, SKIP]]),
                  (6, [(0, 1, SET), (1, 2, SKIP), (2, 3, TAKE), (3, 4, SET), (4, 5, SKIP)], 5))
        self.hold((1, [[("call", 2)], [TAKE], [SET]]), (2, [(0, 1, SET)], 1))
        self.hold((1, [[("call", 1), ("call", 3)], [("call", 2), SKIP], [("call", 3), SET], [TAKE]]),
                  (5, [(0, 1, TAKE), (1, 2, SET), (2, 3, SKIP), (3, 4, TAKE)], 4))
        self.hold((1, [[("loop", [("call", 1)])], [SET, HALT]]), (4, [(0, 1, SKIP), (1, 2, SET), (3, 1, SKIP)], 1))
        self.hold((1, [[("either", [("call", 1)], [("call", 1)])], [("loop", [])]]),
                  (4, [(0, 1, SKIP), (1, 1, SKIP), (0, 2, SKIP), (2, 2, SKIP), (1, 3, SKIP), (2, 3, SKIP)], 3))

    def test_call_of_empty_bodies(self):
        self.hold((0, [[("call", 1)], []]), (1, [], 0))
        self.hold((1, [[SET, ("call", 1), ("call", 1), TAKE], [("call", 2)], []]),
                  (3, [(0, 1, SET), (1, 2, TAKE)], 2))
        self.hold((0, [[("loop", [("call", 1)])], []]), (2, [(0, 1, SKIP), (1, 1, SKIP)], 1))
        self.hold((0, [[("either", [("call", 1)], [])], []]), (2, [(0, 1, SKIP), (0, 1, SKIP)], 1))
        self.hold((0, [[HALT, ("call", 1)], []]), (2, [], 1))

    def test_empty_bodies_called_times_and_times_over(self):
        calls = [[("call", own + 1)] * 300 for own in range(3)]
        self.assertEqual(laid((0, calls + [[]])), (1, [], 0))
        self.assertEqual(laid((0, [[SKIP] + calls[0], calls[1], calls[2], []])), (2, [(0, 1, SKIP)], 1))

    def test_six_deep(self):
        loops = [(k, k + 1, SKIP) for k in range(6)]
        backs = [(k + 1, k, SKIP) for k in range(5, 0, -1)]
        due = (7, loops[:5] + [(5, 6, SET), (6, 5, SKIP)] + backs[1:], 1)
        self.hold((0, [deep(6, [])]), (7, loops + [(6, 6, SKIP)] + backs, 1))
        self.hold((1, [deep(5, [SET])]), due)
        self.hold((1, [deep(5, [("call", 1)]), [SET]]), due)
        self.hold((1, [deep(2, [("call", 1)]), deep(2, [("call", 2)]), deep(1, [SET])]), due)

    def test_eithers_six_deep(self):
        one, other = [TAKE], [TAKE]
        for again in range(5):
            one, other = [("either", one, [SET])], [("either", [SET], other)]
        self.hold((1, [one]), (12, [
            (0, 1, TAKE), (0, 2, SET), (1, 3, SKIP), (2, 3, SKIP), (0, 4, SET), (3, 5, SKIP), (4, 5, SKIP),
            (0, 6, SET), (5, 7, SKIP), (6, 7, SKIP), (0, 8, SET), (7, 9, SKIP), (8, 9, SKIP), (0, 10, SET),
            (9, 11, SKIP), (10, 11, SKIP)], 11))
        self.hold((1, [other]), (12, [
            (0, 1, SET), (0, 2, SET), (0, 3, SET), (0, 4, SET), (0, 5, SET), (0, 6, TAKE), (5, 7, SKIP), (6, 7, SKIP),
            (4, 8, SKIP), (7, 8, SKIP), (3, 9, SKIP), (8, 9, SKIP), (2, 10, SKIP), (9, 10, SKIP), (1, 11, SKIP),
            (10, 11, SKIP)], 11))

    def test_forty_places(self):
        self.hold((0, [[SKIP] * 39]), (40, [(k, k + 1, SKIP) for k in range(39)], 39))
        self.hold((0, [[HALT] * 39]), (40, [], 39))
        self.hold((1, [[("call", 1)] * 3, [SET] * 13]), (40, [(k, k + 1, SET) for k in range(39)], 39))
        self.hold((0, [[("loop", [SKIP] * 38)]]),
                  (40, [(k, k + 1, SKIP) for k in range(39)] + [(39, 1, SKIP)], 1))
        self.hold((0, [[("either", [], [])] * 39]),
                  (40, [(k // 2, k // 2 + 1, SKIP) for k in range(78)], 39))
        self.hold((6, [[("loop", [("either", [("take", 5)], [added_to(6, 3, 999999)])])] * 9 + [HALT] * 3]))

    def test_drawn_programs(self):
        draw = random.Random(100)
        greatest = 0
        for again in range(1500):
            greatest = max(greatest, self.hold(drawn_program(draw, halts=draw.choice((0, 0.1, 0.4))))[0])
        self.assertGreater(greatest, 35)

    def test_great_lines_stay_as_they_are(self):
        draw = random.Random(101)
        for again in range(20):
            self.hold(great_program(draw))


class TakenAsItIsThen(unittest.TestCase):
    def test_what_is_told_is_the_askers_own(self):
        for program in ((0, [[]]), (1, [[SET, ("loop", [TAKE])]]), (0, [[("call", 1)], []])):
            told = laid(program)
            due = deepcopy(told)
            change_lists(told)
            self.assertNotEqual(told, due)
            self.assertEqual(laid(program), due)

    def test_a_program_that_is_changed_is_taken_as_it_is_then(self):
        inner, later = [SET], [SKIP]
        program = (1, [[("loop", inner), ("call", 1)], later])
        first = laid(program)
        due = deepcopy(first)
        inner.append(TAKE)
        later.clear()
        self.assertEqual(first, due)
        self.assertEqual(laid(program), (4, [(0, 1, SKIP), (1, 2, SET), (2, 3, TAKE), (3, 1, SKIP)], 1))


if __name__ == "__main__":
    unittest.main()
