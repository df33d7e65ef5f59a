import random
import unittest
from copy import deepcopy

from draws import HALT, NINE_FIGURES, SKIP, added_to, drawn_program, drawn_run, great_program
from evennotes.errors import NoRun, NoteError
from evennotes.runs import is_run, ran
from oracles import is_line, laid_by_signs, walked

COUNT = (1, [[("loop", [added_to(1, 0, 1)])]])
TAKES = (2, [[("take", 1), ("loop", [("take", 0), ("set", 1, (5, 2, -1))]), SKIP]])


class Runs(unittest.TestCase):
    def hold(self, program, moves, due=None):
        kept, kept_moves = deepcopy(program), list(moves)
        self.assertIs(is_run(program, moves), True)
        told = ran(program, moves)
        self.assertEqual((program, moves), (kept, kept_moves))
        self.assertIsInstance(told, list)
        self.assertTrue(all(isinstance(each, tuple) and is_line(each[1], program[0] + 1) for each in told))
        self.assertEqual(told, walked(program, moves))
        if due is not None:
            self.assertEqual(told, due)
        return told

    def refuse(self, program, moves):
        kept, kept_moves = deepcopy(program), list(moves)
        self.assertIsNone(walked(program, moves))
        self.assertIs(is_run(program, moves), False, moves[-3:])
        for error in (NoRun, NoteError, ValueError):
            with self.assertRaises(error) as caught:
                ran(program, moves)
            self.assertIs(type(caught.exception), NoRun)
        self.assertEqual((program, moves), (kept, kept_moves))

    def test_the_empty_run(self):
        for many in range(7):
            for rows in ([], [HALT], [SKIP], [("loop", [])]):
                self.hold((many, [rows]), [], [(0, (1,) + (0,) * many)])

    def test_by_hand(self):
        self.hold((0, [[SKIP]]), [(0, None)], [(0, (1,)), (1, (1,))])
        self.hold((2, [[("set", 1, (7, 1, 1)), ("set", 0, (0, 0, -2)), ("set", 0, (1, 1, 1))]]),
                  [(0, None), (1, None), (2, None)],
                  [(0, (1, 0, 0)), (1, (1, 0, 7)), (2, (1, -14, 7)), (3, (1, -6, 7))])
        self.hold(COUNT, [(0, None), (1, None), (2, None), (1, None)],
                  [(0, (1, 0)), (1, (1, 0)), (2, (1, 1)), (1, (1, 1)), (2, (1, 2))])
        self.hold(TAKES, [(0, 4), (1, None), (2, -3), (3, None), (4, None), (2, 0), (3, None), (4, None), (5, None)],
                  [(0, (1, 0, 0)), (1, (1, 0, 4)), (2, (1, 0, 4)), (3, (1, -3, 4)), (4, (1, -3, -5)),
                   (2, (1, -3, -5)), (3, (1, 0, -5)), (4, (1, 0, 10)), (2, (1, 0, 10)), (5, (1, 0, 10))])

    def test_both_ways_of_a_choice(self):
        program = (1, [[("either", [added_to(1, 0, 2)], [("set", 0, (9, 0))])]])
        self.hold(program, [(0, None), (2, None)], [(0, (1, 0)), (1, (1, 2)), (3, (1, 2))])
        self.hold(program, [(1, None), (3, None)], [(0, (1, 0)), (2, (1, 9)), (3, (1, 9))])
        self.refuse(program, [(0, None), (3, None)])
        self.refuse(program, [(1, None), (2, None)])
        empty = (0, [[("either", [], [])]])
        self.hold(empty, [(0, None)], [(0, (1,)), (1, (1,))])
        self.hold(empty, [(1, None)], [(0, (1,)), (1, (1,))])

    def test_numbers_taken_of_nine_figures(self):
        for number in (0, 1, -1, NINE_FIGURES, -NINE_FIGURES, 100000000, -100000000):
            self.hold((6, [[("take", 3)]]), [(0, number)],
                      [(0, (1, 0, 0, 0, 0, 0, 0)), (1, (1, 0, 0, 0, number, 0, 0))])
            self.hold((1, [[("take", 0), ("set", 0, (-7, 999999))]]), [(0, number), (1, None)],
                      [(0, (1, 0)), (1, (1, number)), (2, (1, 999999 * number - 7))])

    def test_no_step_of_that_number(self):
        for number in (-1, -2, -3, 3, 4, NINE_FIGURES, -NINE_FIGURES):
            self.refuse(COUNT, [(number, None)])
            self.refuse(COUNT, [(0, None), (1, None), (number, None)])
            self.refuse(COUNT, [(0, None), (number, None), (2, None)])
        self.refuse((0, [[]]), [(0, None)])
        self.refuse((0, [[]]), [(-1, None)])
        self.refuse((0, [[HALT]]), [(0, None)])
        self.refuse((1, [[HALT, ("take", 0)]]), [(0, 5)])

    def test_a_step_from_another_place(self):
        self.refuse(COUNT, [(1, None)])
        self.refuse(COUNT, [(0, None), (0, None)])
        self.refuse(COUNT, [(0, None), (2, None)])
        self.refuse(COUNT, [(0, None), (1, None), (1, None)])
        self.refuse(TAKES, [(2, 1)])
        self.refuse(TAKES, [(0, 1), (2, 1)])

    def test_a_number_where_nothing_is_taken(self):
        for number in (0, 1, -5):
            self.refuse(COUNT, [(0, number)])
            self.refuse(COUNT, [(0, None), (1, number)])
            self.refuse(COUNT, [(0, None), (1, number), (2, None)])
            self.refuse(COUNT, [(0, None), (1, None), (2, number)])

    def test_none_where_a_number_is_due(self):
        self.refuse(TAKES, [(0, None)])
        self.refuse(TAKES, [(0, None), (1, None)])
        self.refuse(TAKES, [(0, 2), (1, None), (2, None)])
        self.refuse(TAKES, [(0, 2), (1, None), (2, None), (3, None)])

    def test_six_thousand_moves(self):
        moves = [(0, None)] + [(1, None), (2, None)] * 2999 + [(1, None)]
        self.assertEqual(len(moves), 6000)
        self.assertEqual(self.hold(COUNT, moves)[-1], (2, (1, 3000)))
        for wrong in ((0, None), (2, 0), (3, None), (-1, None)):
            self.refuse(COUNT, moves[:-1] + [wrong])
            self.refuse(COUNT, moves[:2999] + [wrong] + moves[3000:])
            self.refuse(COUNT, [wrong if wrong != (0, None) else (1, None)] + moves[1:])

    def test_stands_of_great_numbers(self):
        program = (6, [[("set", 0, (1, 0, 0, 0, 0, 0, 0)),
                        ("loop", [("set", k, tuple(999999 if j == 1 + (k - 1) % 6 else 0 for j in range(7)))
                                  for k in range(1, 6)] + [("set", 0, (0, 0, 0, 0, 0, 0, -999999))])]])
        moves = [(0, None), (1, None)] + [(step, None) for step in range(2, 9)] * 50
        told = self.hold(program, moves)
        self.assertEqual(told[-1], (2, (1,) + tuple(999999 ** (300 if k == 0 else 294 + k) * (1 if k == 0 else -1)
                                                    for k in range(6))))

    def test_is_run_of_runs_whose_stands_grow_and_grow(self):
        program = (1, [[("set", 0, (1, 0)), ("loop", [("set", 0, (0, 999999))])]])
        moves = [(0, None), (1, None)] + [(2, None), (3, None)] * 2999
        self.assertIs(is_run(program, moves), True)
        self.assertIs(is_run(program, moves + [(3, None)]), False)

    def test_drawn_runs(self):
        draw = random.Random(110)
        moves_in_all = 0
        for again in range(400):
            program = drawn_program(draw)
            for most in (5, 60):
                moves = drawn_run(draw, program, most)
                moves_in_all += len(moves)
                self.hold(program, moves)
        self.assertGreater(moves_in_all, 5000)
        for again in range(10):
            program = great_program(draw)
            self.hold(program, drawn_run(draw, program, 250))

    def test_drawn_runs_with_one_move_spoiled(self):
        draw = random.Random(111)
        found = {True: 0, False: 0}
        for again in range(600):
            program = drawn_program(draw)
            moves = drawn_run(draw, program, 30)
            if not moves:
                continue
            count = len(laid_by_signs(program)[1])
            for at in sorted({0, len(moves) // 2, len(moves) - 1}):
                step, number = moves[at]
                spoiled = draw.choice(((draw.randint(-2, count + 1), number), (step, 0 if number is None else None)))
                wrong = moves[:at] + [spoiled] + moves[at + 1:]
                found[walked(program, wrong) is not None] += 1
                if walked(program, wrong) is None:
                    self.refuse(program, wrong)
                else:
                    self.hold(program, wrong)
        self.assertGreater(min(found.values()), 20, found)

    def test_what_leads_nowhere_goes_no_further(self):
        program = (1, [[("take", 0), HALT, added_to(1, 0, 1)]])
        self.hold(program, [(0, 8)], [(0, (1, 0)), (1, (1, 8))])
        self.refuse(program, [(0, 8), (1, None)])
        self.refuse(program, [(1, None)])


class TakenAsItIsThen(unittest.TestCase):
    def test_what_is_told_is_the_askers_own(self):
        moves = [(0, None), (1, None)]
        told = ran(COUNT, moves)
        due = list(told)
        told[0] = "other"
        told.append("more")
        self.assertEqual(ran(COUNT, moves), due)
        again = ran(COUNT, moves)
        moves.clear()
        self.assertEqual(again, due)
        self.assertEqual(ran(COUNT, moves), [(0, (1, 0))])

    def test_a_program_that_is_changed_is_taken_as_it_is_then(self):
        rows = [added_to(1, 0, 1)]
        program = (1, [rows])
        first = ran(program, [(0, None)])
        self.assertIs(is_run(program, [(0, None), (1, 4)]), False)
        rows[0] = added_to(1, 0, 5)
        rows.append(("take", 0))
        self.assertEqual(first, [(0, (1, 0)), (1, (1, 1))])
        self.assertIs(is_run(program, [(0, None), (1, 4)]), True)
        self.assertEqual(ran(program, [(0, None), (1, 4)]), [(0, (1, 0)), (1, (1, 5)), (2, (1, 4))])


if __name__ == "__main__":
    unittest.main()
