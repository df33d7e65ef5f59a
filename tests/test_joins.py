import random
import unittest
from copy import deepcopy

from draws import HALT, NINE_FIGURES, SKIP, added_to, deep, drawn_program, drawn_run, great_program, like_program
from evennotes.errors import Needed, NoBox, NoRun, NotAlike, NoteError, NoText, TooGreat
from evennotes.joins import joined, one_shape, paired
from evennotes.programs import is_program
from oracles import (
    both_walked, change_lists, flat, is_a_program, joined_places, joined_signs, laid_by_signs, product_sum, shape,
    stands_of_both, walked, why_no_told_run)

TAKE = ("take", 0)
SET = ("set", 0, (1, 0))
# One row of each sort, within either and loop too, and bodies that are called.
EACH_SORT = (1, [
    [SET, TAKE, SKIP, ("either", [SET, ("loop", [TAKE])], [SKIP]), ("loop", [("either", [], [HALT]), ("call", 2)]),
     ("call", 1)],
    [("loop", []), ("call", 2), HALT, SET],
    [TAKE]])
# The like one, with other boxes and lines.
OTHERWISE = (2, [
    [("set", 1, (5, 6, 7)), ("take", 1), SKIP,
     ("either", [("set", 0, (-1, 0, 2)), ("loop", [("take", 0)])], [SKIP]),
     ("loop", [("either", [], [HALT]), ("call", 2)]), ("call", 1)],
    [("loop", []), ("call", 2), HALT, ("set", 1, (999999, -999999, 0))],
    [("take", 1)]])


def changed_rows(rows):
    """All lists that come of the rows by one change of the shape, at whatever depth."""
    for number, row in enumerate(rows):
        ahead, behind = rows[:number], rows[number + 1:]
        yield ahead + behind
        yield ahead + [row, row] + behind
        for other in (SET, TAKE, SKIP, HALT, ("either", [], []), ("loop", []), ("call", 1)):
            if other[0] != row[0]:
                yield ahead + [other] + behind
        for part_number, part in enumerate(row):
            if isinstance(part, list):
                for changed in changed_rows(part):
                    yield ahead + [row[:part_number] + (changed,) + row[part_number + 1:]] + behind
    yield rows + [SKIP]


class OneShape(unittest.TestCase):
    def hold(self, one, other):
        kept = deepcopy((one, other))
        told = one_shape(one, other)
        self.assertIs(one_shape(other, one), told)
        self.assertEqual((one, other), kept)
        self.assertIs(told, shape(one) == shape(other), (one, other))
        return told

    def test_other_boxes_lines_and_numbers_of_boxes(self):
        self.assertTrue(self.hold(EACH_SORT, OTHERWISE))
        self.assertTrue(self.hold((0, [[SKIP]]), (6, [[SKIP]])))
        self.assertTrue(self.hold((0, [[]]), (3, [[]])))
        self.assertTrue(self.hold((1, [[SET]]), (1, [[("set", 0, (-999999, 999999))]])))
        self.assertTrue(self.hold((6, [[("take", 5)]]), (1, [[TAKE]])))

    def test_each_with_itself(self):
        draw = random.Random(181)
        for program in [EACH_SORT, OTHERWISE, (0, [[]])] + [drawn_program(draw) for again in range(60)]:
            self.assertTrue(self.hold(program, program))
            self.assertTrue(self.hold(program, deepcopy(program)))

    def test_one_change_at_each_depth(self):
        nested = (1, [deep(5, [TAKE, ("either", [SET], [SKIP, SKIP])]), []])
        rows = []
        for program in (EACH_SORT, nested):
            for number, body in enumerate(program[1]):
                for changed in changed_rows(body):
                    bodies = program[1][:number] + [changed] + program[1][number + 1:]
                    self.assertFalse(self.hold(program, (1, bodies)), bodies)
                    rows.append(bodies)
        self.assertGreater(len(rows), 150)

    def test_a_set_is_no_take(self):
        self.assertFalse(self.hold((1, [[SET]]), (1, [[TAKE]])))
        self.assertFalse(self.hold((1, [[SKIP]]), (1, [[HALT]])))
        self.assertFalse(self.hold((1, [[SET, TAKE]]), (1, [[TAKE, SET]])))

    def test_the_lists_of_an_either_exchanged(self):
        self.assertFalse(self.hold((1, [[("either", [SKIP], [TAKE])]]), (1, [[("either", [TAKE], [SKIP])]])))
        self.assertFalse(self.hold((1, [[("either", [SKIP], [])]]), (1, [[("either", [], [SKIP])]])))
        self.assertTrue(self.hold((1, [[("either", [SET], [SET])]]), (1, [[("either", [SET], [("set", 0, (2, 2))])]])))
        nested = (1, [deep(4, [("either", [SKIP, SKIP], [SKIP])])])
        self.assertFalse(self.hold(nested, (1, [deep(4, [("either", [SKIP], [SKIP, SKIP])])])))

    def test_rows_within_and_behind(self):
        self.assertFalse(self.hold((0, [[("loop", [SKIP])]]), (0, [[("loop", []), SKIP]])))
        self.assertFalse(self.hold((0, [[("either", [SKIP], [])]]), (0, [[("either", [], []), SKIP]])))
        self.assertFalse(self.hold((0, [[("loop", [("loop", [])])]]), (0, [[("loop", []), ("loop", [])]])))

    def test_bodies(self):
        self.assertFalse(self.hold((0, [[("call", 1)], [], []]), (0, [[("call", 2)], [], []])))
        self.assertFalse(self.hold((0, [[("loop", [("call", 1)])], [], []]), (0, [[("loop", [("call", 2)])], [], []])))
        self.assertFalse(self.hold((0, [[]]), (0, [[], []])))
        self.assertFalse(self.hold((0, [[], []]), (0, [[], [], []])))
        self.assertFalse(self.hold((0, [[], [SKIP]]), (0, [[SKIP], []])))
        # The call of a body that is laid out alike is still another row than its rows.
        self.assertFalse(self.hold((0, [[("call", 1)], [SKIP]]), (0, [[SKIP], [SKIP]])))

    def test_drawn_programs(self):
        draw = random.Random(182)
        told = {True: 0, False: 0}
        programs = [drawn_program(draw, draw.randint(1, 2), size=2) for again in range(150)]
        for one in programs:
            told[self.hold(one, like_program(draw, one, draw.randint(1, 6)))] += 1
            for other in draw.sample(programs, 5):
                told[self.hold(one, other)] += 1
        self.assertGreater(min(told.values()), 150)


class Joined(unittest.TestCase):
    def hold(self, one, other):
        kept = deepcopy((one, other))
        told = joined(one, other)
        self.assertEqual((one, other), kept)
        self.assertTrue(is_program(told), told)
        self.assertTrue(is_a_program(told), told)
        self.assertEqual(told[0], one[0] + other[0])
        self.assertEqual([list(flat(body)) for body in told[1]], joined_signs(one, other))
        return told

    def refuse(self, refusal, one, other):
        kept = deepcopy((one, other))
        for asked in (lambda: joined(one, other), lambda: paired(one, other, (1,) * (one[0] + other[0] + 1))):
            for taken in (refusal, NoteError, ValueError):
                self.assertRaises(taken, asked)
            try:
                asked()
            except (NoRun, NotAlike, NoBox, Needed, TooGreat, NoText) as found:
                self.assertIs(found.__class__, refusal)
        self.assertEqual((one, other), kept)

    def test_each_sort_by_hand(self):
        for one, other, due in (
                ((1, [[SET]]), (1, [[SET]]), (2, [[("set", 0, (1, 0, 0)), ("set", 1, (1, 0, 0))]])),
                ((2, [[("set", 1, (7, 8, 9))]]), (3, [[("set", 2, (1, 2, 3, 4))]]),
                 (5, [[("set", 1, (7, 8, 9, 0, 0, 0)), ("set", 4, (1, 0, 0, 2, 3, 4))]])),
                ((3, [[("set", 0, (1, 2, 3, 4))]]), (1, [[("set", 0, (8, 9))]]),
                 (4, [[("set", 0, (1, 2, 3, 4, 0)), ("set", 3, (8, 0, 0, 0, 9))]])),
                ((2, [[("take", 1)]]), (2, [[("take", 0)]]), (4, [[("take", 1), ("set", 2, (0, 0, 1, 0, 0))]])),
                ((1, [[("take", 0)]]), (3, [[("take", 2)]]), (4, [[("take", 0), ("set", 3, (0, 1, 0, 0, 0))]])),
                ((1, [[SKIP, HALT]]), (1, [[SKIP, HALT]]), (2, [[SKIP, HALT]])),
                ((1, [[("call", 1), ("call", 2)], [TAKE], []]), (1, [[("call", 1), ("call", 2)], [TAKE], []]),
                 (2, [[("call", 1), ("call", 2)], [TAKE, ("set", 1, (0, 1, 0))], []])),
                ((1, [[("either", [SET], [])]]), (1, [[("either", [("set", 0, (0, 2))], [])]]),
                 (2, [[("either", [("set", 0, (1, 0, 0)), ("set", 1, (0, 0, 2))], [])]])),
                ((1, [[("either", [], [TAKE, SKIP])]]), (1, [[("either", [], [TAKE, SKIP])]]),
                 (2, [[("either", [], [TAKE, ("set", 1, (0, 1, 0)), SKIP])]])),
                ((1, [[("loop", [("loop", [SET])])]]), (1, [[("loop", [("loop", [SET])])]]),
                 (2, [[("loop", [("loop", [("set", 0, (1, 0, 0)), ("set", 1, (1, 0, 0))])])]]))):
            self.assertEqual(self.hold(one, other), due)

    def test_all_sorts_together(self):
        self.assertEqual(self.hold(EACH_SORT, OTHERWISE), (3, [
            [("set", 0, (1, 0, 0, 0)), ("set", 2, (5, 0, 6, 7)), ("take", 0), ("set", 2, (0, 1, 0, 0)), SKIP,
             ("either", [("set", 0, (1, 0, 0, 0)), ("set", 1, (-1, 0, 0, 2)),
                         ("loop", [("take", 0), ("set", 1, (0, 1, 0, 0))])], [SKIP]),
             ("loop", [("either", [], [HALT]), ("call", 2)]), ("call", 1)],
            [("loop", []), ("call", 2), HALT, ("set", 0, (1, 0, 0, 0)), ("set", 2, (999999, 0, -999999, 0))],
            [("take", 0), ("set", 2, (0, 1, 0, 0))]]))
        self.assertNotEqual(joined(OTHERWISE, EACH_SORT), joined(EACH_SORT, OTHERWISE))
        self.hold(OTHERWISE, EACH_SORT)

    def test_without_boxes(self):
        self.assertEqual(self.hold((0, [[]]), (0, [[]])), (0, [[]]))
        rows = [SKIP, ("loop", [("either", [HALT], [])])]
        self.assertEqual(self.hold((0, [rows]), (0, [rows])), (0, [rows]))
        self.assertEqual(self.hold((0, [rows]), (6, [rows])), (6, [rows]))
        self.assertEqual(self.hold((4, [rows]), (0, [rows])), (4, [rows]))

    def test_six_boxes_and_seven(self):
        for many in range(7):
            self.hold((many, [[SKIP]]), (6 - many, [[SKIP]]))
        for many in range(1, 7):
            self.refuse(NotAlike, (many, [[SKIP]]), (7 - many, [[SKIP]]))
        self.refuse(NotAlike, (6, [[]]), (6, [[]]))
        self.hold((3, [[("set", 2, (1, 2, 3, 4))]]), (3, [[("set", 2, (1, 2, 3, 4))]]))
        self.refuse(NotAlike, (3, [[("take", 2)]]), (4, [[("take", 2)]]))

    def test_other_shapes_are_refused(self):
        for one, other in (
                ((1, [[SET]]), (1, [[TAKE]])), ((1, [[SET]]), (1, [[SET, SET]])), ((0, [[]]), (0, [[], []])),
                ((0, [[("call", 1)], [], []]), (0, [[("call", 2)], [], []])),
                ((1, [[("loop", [SET])]]), (1, [[("loop", [SKIP])]]))):
            self.refuse(NotAlike, one, other)
            self.refuse(NotAlike, other, one)

    def test_forty_places_and_forty_one(self):
        for rows in ([SET] * 19 + [SKIP], [TAKE] * 19 + [HALT], [("loop", [SET])] * 13, [("either", [TAKE], [SET])] * 7
                     + [SKIP] * 4):
            self.assertEqual(laid_by_signs(self.hold((1, [rows]), (1, [rows])))[0], 40)
            self.refuse(TooGreat, (1, [rows + [SKIP]]), (1, [rows + [SKIP]]))
        self.hold((0, [[SKIP] * 39]), (0, [[SKIP] * 39]))
        self.refuse(TooGreat, (1, [[SET] * 20]), (1, [[SET] * 20]))
        self.refuse(TooGreat, (1, [[TAKE] * 39]), (1, [[TAKE] * 39]))

    def test_forty_places_of_any_body(self):
        fits, too_great = [SET] * 19 + [SKIP], [SET] * 20
        for count in range(1, 4):
            ahead = [[]] * count
            self.hold((1, ahead + [fits]), (1, ahead + [fits]))
            self.refuse(TooGreat, (1, ahead + [too_great]), (1, ahead + [too_great]))
            self.refuse(TooGreat, (1, [too_great] + ahead), (1, [too_great] + ahead))
        self.refuse(TooGreat, (1, [[], too_great, []]), (1, [[], too_great, []]))
        called = (1, [[("call", 1)] * 2, [SET] * 10])
        self.refuse(TooGreat, called, called)
        called = (1, [[("call", 1)] * 2, [SET] * 9 + [SKIP]])
        self.hold(called, called)

    def test_not_alike_goes_ahead_of_too_great(self):
        self.refuse(NotAlike, (1, [[SET] * 20]), (1, [[SET] * 21]))
        self.refuse(NotAlike, (1, [[SET] * 39]), (1, [[SET] * 38 + [TAKE]]))
        self.refuse(NotAlike, (4, [[("take", 3)] * 39]), (3, [[("take", 2)] * 39]))
        self.refuse(TooGreat, (3, [[("take", 2)] * 39]), (3, [[("take", 2)] * 39]))

    def test_the_deepest_rows(self):
        self.hold((1, [deep(5, [SET, TAKE])]), (1, [deep(5, [SET, TAKE])]))

    def like_moves(self, one, moves):
        """The moves of the joined program for those of both."""
        steps = laid_by_signs(one)[1]
        told = []
        for step, number in moves:
            new = step + sum(deed[0] != "skip" for start, to, deed in steps[:step])
            told.append((new, number))
            if steps[step][2][0] != "skip":
                told.append((new + 1, None))
        return told

    def test_behind_like_runs_each_box_holds_the_same(self):
        draw = random.Random(191)
        moved = 0
        for again in range(150):
            one, other = drawn_pair(draw)
            told = self.hold(one, other)
            for run in range(3):
                moves = drawn_run(draw, one, 30)
                place, stand = both_walked(one, other, moves)
                both = walked(told, self.like_moves(one, moves))
                self.assertEqual(both[-1][1], stand)
                self.assertEqual(both[-1][0] == laid_by_signs(told)[2], place == laid_by_signs(one)[2])
                moved += len(moves)
        self.assertGreater(moved, 2000)

    def test_drawn_programs(self):
        draw = random.Random(192)
        told = {"joined": 0, NotAlike: 0, TooGreat: 0}
        for again in range(500):
            one = drawn_program(draw, draw.randint(1, 4), size=draw.choice((3, 5, 7)))
            other = like_program(draw, one, draw.randint(1, 4))
            if one[0] + other[0] > 6:
                self.refuse(NotAlike, one, other)
                told[NotAlike] += 1
            elif joined_places(one, other) > 40:
                self.refuse(TooGreat, one, other)
                told[TooGreat] += 1
            else:
                self.hold(one, other)
                told["joined"] += 1
        self.assertGreater(min(told.values()), 30, told)


def drawn_pair(draw, most=6):
    """Two programs that can be joined."""
    while True:
        many = draw.randint(1, most - 1)
        one = drawn_program(draw, many, halts=draw.choice((0, 0.05, 0.2)), size=draw.choice((3, 4)))
        other = like_program(draw, one, draw.randint(1, most - many))
        if draw.random() < 0.5 and 2 * many <= most:
            other = deepcopy(one)
        if joined_places(one, other) <= 40:
            return one, other


class Paired(unittest.TestCase):
    def hold(self, one, other, line):
        kept = deepcopy((one, other))
        told = paired(one, other, line)
        self.assertEqual((one, other), kept)
        end = laid_by_signs(one)[2]
        stands = stands_of_both(one, other)[end]
        if not stands:
            self.assertEqual(told, ("never",))
        elif all(product_sum(line, stand) == 0 for stand in stands):
            self.assertEqual(told, ("holds",))
        else:
            self.assertIsInstance(told, tuple)
            name, moves = told
            self.assertEqual(name, "breaks")
            self.hold_broken(one, other, line, moves)
        return told

    def hold_broken(self, one, other, line, moves):
        self.assertIsNone(why_no_told_run(one, moves), (one, moves))
        self.assertIsNone(why_no_told_run(other, moves), (other, moves))
        place, stand = both_walked(one, other, moves)
        self.assertEqual(place, laid_by_signs(one)[2])
        self.assertNotEqual(product_sum(line, stand), 0)

    def test_by_hand(self):
        twice = (1, [[("loop", [added_to(1, 0, 2)])]])
        thrice = (2, [[("loop", [added_to(2, 1, 3)])]])
        for line, due in (
                ((0, 3, 0, -2), ("holds",)), ((0, 0, 1, 0), ("holds",)), ((0, 6, 5, -4), ("holds",)),
                ((0, 0, 0, 0), ("holds",)),
                ((1, 0, 0, 0), ("breaks", [(0, None)])), ((0, 1, 0, 0), ("breaks", [(0, None), (1, None), (2, None)])),
                ((0, 2, 0, -3), ("breaks", [(0, None), (1, None), (2, None)]))):
            told = self.hold(twice, thrice, line)
            self.assertEqual(told, due)

    def test_like_numbers_are_taken(self):
        one = (1, [[TAKE, ("set", 0, (1, 2))]])
        other = (2, [[("take", 1), ("set", 0, (3, 0, 4))]])
        self.assertEqual(self.hold(one, other, (-1, -2, 1, 0)), ("holds",))
        self.assertEqual(self.hold(one, other, (-1, 1, 0, -2)), ("holds",))
        self.assertEqual(self.hold(one, other, (0, 1, 0, 0)), ("breaks", [(0, 0), (1, None)]))
        self.assertEqual(self.hold(one, other, (0, 0, 0, 1)), ("breaks", [(0, 1), (1, None)]))

    def test_like_ways_are_gone(self):
        one = (1, [[("either", [("set", 0, (4, 0))], [("set", 0, (5, 0))])]])
        other = (1, [[("either", [("set", 0, (14, 0))], [("set", 0, (15, 0))])]])
        self.assertEqual(self.hold(one, other, (10, 1, -1)), ("holds",))
        self.assertEqual(self.hold(one, other, (4, -1, 0))[1], [(1, None), (3, None)])
        self.assertEqual(self.hold(one, other, (5, -1, 0))[1], [(0, None), (2, None)])

    def test_the_end_alone(self):
        # Amid the way the boxes differ, at the end they don't.
        one = (1, [[SET, ("set", 0, (2, 0))]])
        other = (1, [[("set", 0, (9, 0)), ("set", 0, (2, 0))]])
        self.assertEqual(self.hold(one, other, (0, 1, -1)), ("holds",))
        self.assertEqual(self.hold((1, [[SET]]), (1, [[("set", 0, (9, 0))]]), (0, 1, -1)), ("breaks", [(0, None)]))

    def test_never(self):
        for rows in ([HALT], [SET, HALT], [HALT, SET], [("either", [HALT], [TAKE, HALT])], [("loop", []), HALT, SKIP]):
            for line in ((0, 0, 0), (1, 0, 0), (0, 1, -1)):
                self.assertEqual(self.hold((1, [rows]), (1, [rows]), line), ("never",))
        self.assertEqual(self.hold((0, [[("call", 1)], [HALT]]), (0, [[("call", 1)], [HALT]]), (1,)), ("never",))

    def test_empty_programs(self):
        self.assertEqual(self.hold((0, [[]]), (0, [[]]), (0,)), ("holds",))
        self.assertEqual(self.hold((0, [[]]), (0, [[]]), (5,)), ("breaks", []))
        self.assertEqual(self.hold((6, [[]]), (0, [[]]), (0, 1, 2, 3, 4, 5, 6)), ("holds",))
        self.assertEqual(self.hold((2, [[]]), (4, [[]]), (-NINE_FIGURES,) + (0,) * 6), ("breaks", []))

    def test_through_calls_and_within_lists(self):
        one = (1, [[("call", 1), ("loop", [("call", 1), SKIP])], [TAKE, ("set", 0, (1, 1)), SKIP]])
        other = (2, [[("call", 1), ("loop", [("call", 1), SKIP])], [("take", 1), ("set", 0, (2, 0, 2)), SKIP]])
        self.assertEqual(self.hold(one, other, (0, 2, -1, 0)), ("holds",))
        self.assertEqual(self.hold(one, other, (-1, 1, 0, -1)), ("holds",))
        self.assertEqual(self.hold(one, other, (0, 1, -1, 0))[0], "breaks")

    def test_what_breaks_in_late_rounds_alone(self):
        rows = [("loop", [("set", 0, (0, 0, 1, 0)), ("set", 1, (0, 0, 0, 1)), ("set", 2, (1, 0, 0, 0))])]
        one, other = (3, [rows]), (3, deepcopy([rows]))
        told = self.hold(one, other, (0, 1, 0, 0, 0, 0, 0))
        self.assertGreaterEqual(len(told[1]), 13)
        self.assertEqual(self.hold(one, other, (0, 1, 0, 0, -1, 0, 0)), ("holds",))

    def test_great_numbers(self):
        draw = random.Random(201)
        for again in range(4):
            one = great_program(draw, 3)
            other = deepcopy(one)
            self.assertEqual(self.hold(one, other, (0, 1, 2, -NINE_FIGURES, -1, -2, NINE_FIGURES)), ("holds",))
            self.assertEqual(self.hold(one, other, (0, 1, 2, 3, -1, -2, -4))[0], "breaks")
            self.hold(one, like_program(draw, one, 3), (0, 1, 2, -NINE_FIGURES, -1, -2, NINE_FIGURES))

    def test_drawn_programs(self):
        draw = random.Random(202)
        names = {"never": 0, "holds": 0, "breaks": 0}
        for again in range(250):
            one, other = drawn_pair(draw)
            many = one[0] + other[0]
            lines = [tuple(draw.choice((0, 0, 1, -1, NINE_FIGURES)) for place in range(many + 1)) for line in range(2)]
            if one[0] == other[0]:
                box = draw.randrange(one[0])
                lines.append((0,) + tuple(int(k == box) - int(k == box + one[0]) for k in range(many)))
            for line in lines + [(0,) * (many + 1)]:
                names[self.hold(one, other, line)[0]] += 1
        self.assertGreater(min(names.values()), 60, names)


class TakenAsItIsThen(unittest.TestCase):
    def test_what_is_told_is_the_askers_own(self):
        rows = [("loop", [("either", [added_to(1, 0, 1)], []), ("call", 1)]), SKIP]
        one, other = (1, [rows, [TAKE]]), (1, [list(rows), [TAKE]])
        kept = deepcopy((one, other))
        for asked in (lambda: joined(one, other), lambda: joined(one, one), lambda: paired(one, other, (0, 1, 0))):
            told = asked()
            due = deepcopy(told)
            change_lists(told)
            self.assertNotEqual(told, due)
            self.assertEqual((one, other), kept)
            self.assertEqual(asked(), due)

    def test_lists_within_are_new_ones_too(self):
        within = [SKIP]
        one = (0, [[("loop", within), ("either", within, within)], within])
        told = joined(one, one)
        within.append(HALT)
        self.assertEqual(told, (0, [[("loop", [SKIP]), ("either", [SKIP], [SKIP])], [SKIP]]))
        told[1][0][1][1].clear()
        self.assertEqual(told, (0, [[("loop", [SKIP]), ("either", [], [SKIP])], [SKIP]]))

    def test_a_program_that_is_changed_is_taken_as_it_is_then(self):
        rows = [added_to(1, 0, 1)]
        one, other = (1, [[("loop", rows)]]), (1, [[("loop", [added_to(1, 0, 1)])]])
        self.assertEqual(paired(one, other, (0, 1, -1)), ("holds",))
        first = joined(one, other)
        due = deepcopy(first)
        rows[0] = added_to(1, 0, 2)
        self.assertEqual(first, due)
        self.assertEqual(paired(one, other, (0, 1, -1))[0], "breaks")
        self.assertEqual(paired(one, other, (0, 1, -2)), ("holds",))
        self.assertEqual(joined(one, other)[1][0][0][1][0], ("set", 0, (2, 1, 0)))
        rows.append(SKIP)
        self.assertFalse(one_shape(one, other))
        self.assertRaises(NotAlike, joined, one, other)


if __name__ == "__main__":
    unittest.main()
