import random
import unittest
from copy import deepcopy

from draws import HALT, SKIP, added_to, deep, drawn_program, drawn_run, great_line, with_spare_box
from evennotes.errors import Needed, NoBox, NoRun, NotAlike, NoteError, NoText, TooGreat
from evennotes.needless import fixed, without
from evennotes.notes import notes
from evennotes.programs import is_program
from oracles import (
    change_lists, deeds_without, fixed_by_parts, flat, is_a_program, laid_by_signs, place_of_need, places_come_to,
    product_sum, reads_box, signs_without, walked)

GREATEST = 999999
# Box 1 is twice box 0 and 3, and is read.
TWICE = (3, [[("take", 0), ("set", 1, (3, 2, 0, 0)), ("set", 2, (0, 0, 5, 0))]])


class Fixed(unittest.TestCase):
    def hold(self, program, place, box):
        kept = deepcopy(program)
        told = fixed(program, place, box)
        self.assertEqual(program, kept)
        self.assertEqual(told, fixed_by_parts(notes(program)[place], box), (program, place, box))
        if told is not None:
            self.assertIsInstance(told, tuple)
            self.assertEqual((len(told), told[box + 1]), (program[0] + 1, 0))
        return told

    def test_by_hand(self):
        for program, due in (
                ((1, [[]]), [[(0, 0)]]),
                ((2, [[]]), [[(0, 0, 0), (0, 0, 0)]]),
                ((1, [[("set", 0, (-7, 0))]]), [[(0, 0)], [(-7, 0)]]),
                ((1, [[("take", 0)]]), [[(0, 0)], [None]]),
                ((1, [[("take", 0), HALT, SKIP]]), [[(0, 0)], [None], [None], [None]]),
                ((2, [[("take", 0), ("set", 1, (5, 1, 0))]]),
                 [[(0, 0, 0), (0, 0, 0)], [None, (0, 0, 0)], [(-5, 0, 1), (5, 1, 0)]]),
                ((2, [[("take", 0), ("set", 1, (5, -1, 0))]]),
                 [[(0, 0, 0), (0, 0, 0)], [None, (0, 0, 0)], [(5, 0, -1), (5, -1, 0)]])):
            told = [[self.hold(program, place, box) for box in range(program[0])] for place in range(len(due))]
            self.assertEqual(told, due)

    def test_twice_is_fixed_one_way_alone(self):
        self.assertEqual([self.hold(TWICE, 2, box) for box in range(3)], [None, (3, 2, 0, 0), (0, 0, 0, 0)])
        self.assertEqual([self.hold(TWICE, 3, box) for box in range(3)], [None, (3, 2, 0, 0), (15, 10, 0, 0)])

    def test_a_ratio_fixes_neither(self):
        program = (2, [[("loop", [added_to(2, 0, 2), added_to(2, 1, 3)])]])
        self.assertEqual([self.hold(program, 1, box) for box in range(2)], [None, None])
        program = (2, [[("loop", [added_to(2, 0, 2), added_to(2, 1, 6)])]])
        self.assertEqual([self.hold(program, 1, box) for box in range(2)], [None, (0, 3, 0)])
        program = (2, [[("loop", [added_to(2, 0, -2), added_to(2, 1, 2)])]])
        self.assertEqual([self.hold(program, 1, box) for box in range(2)], [(0, 0, -1), (0, -1, 0)])

    def test_by_several_others(self):
        program = (3, [[("take", 0), ("set", 1, (0, 1, 0, 0)), ("set", 2, (0, 2, 0, 0))]])
        self.assertEqual([self.hold(program, 3, box) for box in range(3)],
                         [(0, 0, 1, 0), (0, 1, 0, 0), (0, 2, 0, 0)])
        program = (4, [[("take", 1), ("set", 0, (0, 0, 2, 0, 0)), ("set", 3, (1, 1, 0, 0, 0))]])
        self.assertEqual([self.hold(program, 3, box) for box in range(4)],
                         [(0, 0, 2, 0, 0), None, (0, 0, 0, 0, 0), (1, 1, 0, 0, 0)])
        program = (3, [[("take", 0), ("take", 1), ("set", 2, (7, 3, -1, 0))]])
        self.assertEqual([self.hold(program, 3, box) for box in range(3)], [None, (7, 3, 0, -1), (7, 3, -1, 0)])

    def test_the_settled_list_alone_tells(self):
        # Box 0 is box 2 and half of box 1. The others' own line, box 1 as twice box 2, has its head at the last
        # of them, so the line of box 0 has 0 there, and 2 at box 0: it isn't fixed.
        program = (3, [[("take", 2), ("set", 0, (0, 0, 0, 1)), ("set", 1, (0, 1, 0, 1))]])
        self.assertEqual(self.hold(program, 2, 0), (0, 0, 0, 1))
        self.assertEqual(self.hold(program, 3, 0), None)
        # With the same boxes in another order it is.
        program = (3, [[("take", 1), ("set", 0, (0, 0, 1, 0)), ("set", 2, (0, 1, 1, 0))]])
        self.assertEqual(self.hold(program, 3, 0), (0, 0, 1, 0))

    def test_a_number_above_one_at_the_head(self):
        # Box 2 is thrice box 0, and four times box 1: of box 0 and box 1 no whole sum is told.
        program = (3, [[("take", 0), ("take", 1), ("set", 2, (0, 3, 4, 0))]])
        self.assertEqual([self.hold(program, 3, box) for box in range(3)], [None, None, (0, 3, 4, 0)])

    def test_great_numbers(self):
        draw = random.Random(211)
        program = (6, [[("set", draw.randrange(6), great_line(draw, 6)) for again in range(39)]])
        stand = walked(program, [(step, None) for step in range(39)])[-1][1]
        for box in range(6):
            self.assertEqual(self.hold(program, 39, box), (stand[box + 1],) + (0,) * 6)
        self.assertGreater(max(map(abs, stand)), 10 ** 100)

    def test_drawn_programs(self):
        draw = random.Random(212)
        seen = {"fixed": 0, "not": 0, "never": 0}
        for again in range(200):
            program = drawn_program(draw, draw.randint(1, 6), halts=draw.choice((0, 0.05, 0.2)))
            come = places_come_to(program)
            runs = [walked(program, drawn_run(draw, program, 40)) for run in range(3)]
            count = laid_by_signs(program)[0]
            for place in draw.sample(range(count), min(count, 4)):
                for box in range(program[0]):
                    told = self.hold(program, place, box)
                    seen["never" if place not in come else "not" if told is None else "fixed"] += 1
                    self.assertTrue(place in come or told is None)
                    for there, stand in runs[0] + runs[1] + runs[2]:
                        if told is not None and there == place:
                            self.assertEqual(product_sum(told, stand), stand[box + 1])
        self.assertGreater(min(seen.values()), 150, seen)


class Without(unittest.TestCase):
    def hold(self, program, box):
        """Told as point 22 tells it."""
        kept = deepcopy(program)
        told = without(program, box)
        self.assertEqual(program, kept)
        self.assertTrue(is_program(told), told)
        self.assertTrue(is_a_program(told), told)
        self.assertEqual((told[0], len(told[1])), (program[0] - 1, 1))
        deeds = deeds_without(program, notes(program), box)
        self.assertEqual(list(flat(told[1][0])), signs_without(program, deeds, box), program)
        count, steps, end = laid_by_signs(program)
        new = [(start, to, deed) for (start, to, old), deed in zip(steps, deeds)]
        self.assertEqual(laid_by_signs(told), (count, new, end), program)
        return told

    def hold_along(self, program, box, told, moves):
        steps = laid_by_signs(program)[1]
        like = [(step, None if steps[step][2] == ("take", box) else number) for step, number in moves]
        due = [(place, stand[:box + 1] + stand[box + 2:]) for place, stand in walked(program, moves)]
        self.assertEqual(walked(told, like), due, (program, box))

    def refuse(self, refusal, program, box, place=None):
        kept = deepcopy(program)
        for taken in (refusal, NoteError, ValueError):
            self.assertRaises(taken, without, program, box)
        try:
            without(program, box)
        except (NoRun, NotAlike, NoBox, Needed, TooGreat, NoText) as found:
            self.assertIs(found.__class__, refusal)
            if refusal is Needed:
                self.assertEqual(found.place, place)
        self.assertEqual(program, kept)

    def test_by_hand(self):
        for program, box, due in (
                ((1, [[]]), 0, (0, [[]])),
                ((1, [[("take", 0), ("set", 0, (1, 0)), SKIP, HALT]]), 0, (0, [[SKIP, SKIP, SKIP, HALT]])),
                (TWICE, 1, (2, [[("take", 0), SKIP, ("set", 1, (15, 10, 0))]])),
                (TWICE, 2, (2, [[("take", 0), ("set", 1, (3, 2, 0)), SKIP]])),
                # Read at first, where it is 0, and with other boxes of lesser and greater number.
                ((3, [[("set", 0, (1, 2, 3, 4)), ("set", 2, (5, 6, 7, 8)), ("take", 2), ("take", 0)]]), 1,
                 (2, [[("set", 0, (1, 2, 4)), ("set", 1, (5, 6, 8)), ("take", 1), ("take", 0)]])),
                # A box that was set is read by its number.
                ((2, [[("set", 0, (7, 0, 0)), ("set", 1, (1, -2, 3))]]), 0, (1, [[SKIP, ("set", 0, (-13, 3))]])),
                # The box's own set may read what it likes.
                ((2, [[("take", 0), ("set", 0, (1, 9, 9)), ("take", 1)]]), 0, (1, [[SKIP, SKIP, ("take", 0)]])),
                # Where the other box is set, it is told by itself.
                ((2, [[("take", 1), ("set", 0, (4, 0, -3)), ("set", 1, (0, 1, 1))]]), 0,
                 (1, [[("take", 0), SKIP, ("set", 0, (4, -2))]]))):
            self.assertEqual(self.hold(program, box), due)

    def test_lists_and_calls(self):
        program = (2, [
            [("call", 1), ("loop", [("either", [("call", 2)], [("call", 1), SKIP]), ("call", 3)]), ("call", 2)],
            [("take", 0), ("set", 1, (1, 1, 0)), ("call", 2)],
            [("set", 0, (0, 0, 1)), ("set", 1, (1, 1, 0)), ("call", 3)],
            []])
        called = [("set", 0, (1, 1)), SKIP]
        self.assertEqual(self.hold(program, 1), (1, [
            [("take", 0), SKIP] + called + [("loop", [("either", called, [("take", 0), SKIP] + called + [SKIP])])]
            + called]))

    def test_a_set_in_a_body_is_told_by_each_place_of_it(self):
        program = (2, [[("set", 0, (5, 0, 0)), ("call", 1), ("set", 0, (8, 0, 0)), ("call", 1)],
                       [("set", 1, (1, 2, 3))]])
        self.assertEqual(self.hold(program, 0), (1, [[SKIP, ("set", 0, (11, 3)), SKIP, ("set", 0, (17, 3))]]))

    def test_where_no_run_comes(self):
        reading = ("set", 1, (3, GREATEST, -2))
        for rows, due in (
                ([("take", 0), HALT, reading], [SKIP, HALT, ("set", 0, (3, -2))]),
                ([HALT, ("take", 0), ("either", [reading], []), SKIP],
                 [HALT, SKIP, ("either", [("set", 0, (3, -2))], []), SKIP]),
                ([("take", 0), ("either", [HALT, reading], [HALT, ("loop", [reading])]), reading],
                 [SKIP, ("either", [HALT, ("set", 0, (3, -2))], [HALT, ("loop", [("set", 0, (3, -2))])]),
                  ("set", 0, (3, -2))])):
            self.assertEqual(self.hold((2, [rows]), 0), (1, [due]))
        # The box is fixed elsewhere, but that doesn't tell what it is where no run comes.
        program = (2, [[("set", 0, (9, 0, 0)), reading, HALT, ("set", 1, (1, 1, 1))]])
        self.refuse(TooGreat, program, 0)
        program = (2, [[("set", 0, (9, 0, 0)), ("set", 1, (1, 1, 1)), HALT, ("set", 1, (1, 1, 1))]])
        self.assertEqual(self.hold(program, 0), (1, [[SKIP, ("set", 0, (10, 1)), HALT, ("set", 0, (1, 1))]]))

    def test_no_box(self):
        for program in ((0, [[]]), (1, [[SKIP]]), TWICE, (6, [[("take", 5)]])):
            for box in (program[0], program[0] + 1, 999999999, 10 ** 59):
                self.refuse(NoBox, program, box)

    def test_no_box_goes_ahead_of_all(self):
        program = (2, [[("take", 0), ("set", 1, (0, GREATEST, GREATEST)), ("set", 0, (0, 0, GREATEST))]])
        self.refuse(NoBox, program, 2)

    def test_needed(self):
        for program, box, place in (
                ((2, [[("take", 0), ("set", 1, (0, 1, 0))]]), 0, 1),
                ((2, [[("take", 0), SKIP, SKIP, ("set", 1, (0, -1, 0))]]), 0, 3),
                ((2, [[("take", 1), ("set", 0, (0, 0, 1)), ("take", 0), ("loop", [("set", 1, (0, 1, 0))])]]), 0, 4),
                ((2, [[("loop", [("set", 1, (0, 1, 0)), added_to(2, 0, 1)])]]), 0, 1),
                ((2, [[("take", 0), ("call", 1)], [SKIP, ("set", 1, (0, 1, 0))]]), 0, 2),
                # Thrice the one is twice the other: neither is a whole sum of the other.
                ((3, [[("loop", [added_to(3, 0, 2), added_to(3, 1, 3)]), ("set", 2, (0, 2, 2, 0))]]), 0, 1),
                ((3, [[("loop", [added_to(3, 0, 2), added_to(3, 1, 3)]), ("set", 2, (0, 2, 2, 0))]]), 1, 1)):
            self.refuse(Needed, program, box, place)

    def test_the_least_place_of_need(self):
        reading = ("set", 1, (0, 1, 0))
        self.refuse(Needed, (2, [[("take", 0), reading, ("take", 0), reading]]), 0, 1)
        # Places at which it is fixed and places to which no run comes are passed over.
        self.hold((2, [[("set", 0, (4, 0, 0)), reading, ("take", 0), HALT, reading]]), 0)
        self.refuse(Needed, (2, [[("set", 0, (4, 0, 0)), reading, ("either", [HALT, reading], []), ("take", 0), reading,
                                  ("take", 0), reading]]), 0, 6)
        # The step of the greater number leads from the lesser place.
        program = (2, [[("either", [("take", 0), SKIP, reading], [("take", 0), reading])]])
        self.refuse(Needed, program, 0, 2)
        program = (3, [[("take", 0), ("either", [("take", 1), ("set", 2, (0, 1, 0, 0))],
                                      [("set", 2, (0, 1, 0, 0))])]])
        self.assertEqual([step[0] for step in laid_by_signs(program)[1] if step[2][0] == "set"], [2, 1])
        self.refuse(Needed, program, 0, 1)

    def test_what_is_no_reading(self):
        # A number 0 for the box, the box's own set, and takes.
        program = (2, [[("take", 0), ("set", 0, (0, 5, 0)), ("set", 1, (7, 0, 1)), ("take", 1), ("set", 0, (0, 1, 1))]])
        self.assertEqual(self.hold(program, 0), (1, [[SKIP, SKIP, ("set", 0, (7, 1)), ("take", 0), SKIP]]))

    def test_a_body_that_is_not_called_needs_nothing(self):
        program = (2, [[("take", 0)], [("set", 1, (0, 1, 0))]])
        self.assertEqual(self.hold(program, 0), (1, [[SKIP]]))

    def test_six_figures_and_seven(self):
        def program(number, line):
            return (2, [[("set", 0, (number, 0, 0)), ("set", 1, line)]])

        self.assertEqual(self.hold(program(GREATEST, (0, 1, 0)), 0), (1, [[SKIP, ("set", 0, (GREATEST, 0))]]))
        self.assertEqual(self.hold(program(GREATEST, (0, -1, 0)), 0), (1, [[SKIP, ("set", 0, (-GREATEST, 0))]]))
        self.refuse(TooGreat, program(GREATEST, (1, 1, 0)), 0)
        self.refuse(TooGreat, program(GREATEST, (-1, -1, 0)), 0)
        self.refuse(TooGreat, program(1000, (0, 1000, 0)), 0)
        self.refuse(TooGreat, program(-1000, (0, 1000, 0)), 0)
        self.assertEqual(self.hold(program(1000, (-1, 1000, 0)), 0), (1, [[SKIP, ("set", 0, (GREATEST, 0))]]))
        self.refuse(TooGreat, (2, [[("take", 1), ("set", 0, (0, 0, 2)), ("set", 1, (0, 500000, 0))]]), 0)
        self.assertEqual(self.hold((2, [[("take", 1), ("set", 0, (0, 0, 2)), ("set", 1, (0, 500000, -1))]]), 0),
                         (1, [[("take", 0), SKIP, ("set", 0, (0, GREATEST))]]))
        # The greatest numbers that aren't touched stay.
        self.assertEqual(self.hold((2, [[("set", 1, (GREATEST, 0, -GREATEST))]]), 0),
                         (1, [[("set", 0, (GREATEST, -GREATEST))]]))

    def test_needed_goes_ahead_of_too_great(self):
        great = [("set", 0, (GREATEST, 0, 0)), ("set", 1, (1, 1, 0))]
        self.refuse(TooGreat, (2, [great]), 0)
        self.refuse(Needed, (2, [great + [("take", 0), ("set", 1, (0, 1, 0))]]), 0, 3)
        self.refuse(TooGreat, (2, [great + [("take", 0), HALT, ("set", 1, (0, 1, 0))]]), 0)

    def test_the_greatest_programs(self):
        self.hold((6, [[("take", 0), ("set", 5, (0, 1, 0, 0, 0, 0, 0))] + [("set", 1, (0, 1, 0, 0, 0, 0, 1))] * 37]), 5)
        self.hold((2, [deep(5, [("take", 0), ("set", 1, (1, 1, 0)), ("set", 0, (0, 0, 1))])]), 1)
        called = (2, [[("call", 1)] * 3, [("call", 2)] * 4, [("take", 0), ("set", 1, (1, 1, 0)), ("set", 0, (0, 0, 1))]])
        self.assertEqual(laid_by_signs(self.hold(called, 1))[0], 37)

    def test_many_calls_of_bodies_without_places(self):
        program = (1, [[("call", 1)] * 900 + [("take", 0)], [("call", 2)] * 900, [("call", 3)] * 900, []])
        self.assertEqual(without(program, 0), (0, [[SKIP]]))

    def test_drawn_programs(self):
        draw = random.Random(221)
        seen = {"without": 0, "changed": 0, Needed: 0}
        for again in range(250):
            drawn = drawn_program(draw, draw.randint(1, 5), halts=draw.choice((0, 0.05, 0.2)), size=4)
            spare = draw.randint(0, drawn[0])
            program = with_spare_box(draw, drawn, spare)
            if is_a_program(program):
                for box in (spare, draw.randrange(program[0])):
                    name = self.hold_any(draw, program, box)
                    seen[name] += 1
                    seen["changed"] += name == "without" and any(
                        reads_box(deed, box) for start, to, deed in laid_by_signs(program)[1])
        self.assertGreater(min(seen.values()), 40, seen)

    def hold_any(self, draw, program, box):
        place = place_of_need(program, notes(program), box)
        if place is not None:
            self.refuse(Needed, program, box, place)
            return Needed
        told = self.hold(program, box)
        for run in range(4):
            self.hold_along(program, box, told, drawn_run(draw, program, 50))
        return "without"


class TakenAsItIsThen(unittest.TestCase):
    def test_what_is_told_is_the_askers_own(self):
        program = (2, [[("take", 0), ("loop", [("either", [("set", 1, (1, 1, 0))], [])]), ("call", 1)], [SKIP]])
        kept = deepcopy(program)
        told = without(program, 1)
        due = deepcopy(told)
        change_lists(told)
        self.assertNotEqual(told, due)
        self.assertEqual(program, kept)
        self.assertEqual(without(program, 1), due)

    def test_lists_within_are_new_ones_too(self):
        within = [SKIP]
        program = (1, [[("loop", within), ("either", within, within), ("call", 1), ("call", 1)], [("loop", within)]])
        told = without(program, 0)
        within.append(HALT)
        due = (0, [[("loop", [SKIP]), ("either", [SKIP], [SKIP]), ("loop", [SKIP]), ("loop", [SKIP])]])
        self.assertEqual(told, due)
        told[1][0][3][1].clear()
        self.assertEqual(told, (0, [due[1][0][:3] + [("loop", [])]]))

    def test_a_program_that_is_changed_is_taken_as_it_is_then(self):
        rows = [("set", 0, (7, 0, 0)), ("set", 1, (0, 1, 0))]
        program = (2, [rows])
        first = without(program, 0)
        self.assertEqual((first, fixed(program, 1, 0)), ((1, [[SKIP, ("set", 0, (7, 0))]]), (7, 0, 0)))
        rows[0] = ("set", 0, (8, 0, 0))
        self.assertEqual(first, (1, [[SKIP, ("set", 0, (7, 0))]]))
        self.assertEqual(without(program, 0), (1, [[SKIP, ("set", 0, (8, 0))]]))
        self.assertEqual(fixed(program, 1, 0), (8, 0, 0))
        rows[0] = ("take", 0)
        self.assertRaises(Needed, without, program, 0)
        self.assertIsNone(fixed(program, 1, 0))


if __name__ == "__main__":
    unittest.main()
