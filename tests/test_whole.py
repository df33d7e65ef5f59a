"""The whole of point 3: what is told to hold holds on every drawn run, what is told to break breaks on the told one."""

import random
import unittest
from copy import deepcopy

from draws import NINE_FIGURES, drawn_program, drawn_run, great_program, like_program, with_spare_box
from evennotes.errors import Needed, NoteError, TooGreat
from evennotes.joins import joined, one_shape, paired
from evennotes.layouts import laid
from evennotes.needless import fixed, without
from evennotes.notes import notes, said
from evennotes.programs import is_program
from evennotes.rests import said_by, tables
from evennotes.runs import is_run, ran
from evennotes.texts import read, show
from oracles import both_walked, is_a_program, laid_by_signs, places_come_to, product_sum, sum_of, walked

TAKEN = (0, 1, -1, 2, 7, NINE_FIGURES, -NINE_FIGURES)


class Whole(unittest.TestCase):
    def setUp(self):
        self.seen = {}

    def count(self, name):
        self.seen[name] = self.seen.get(name, 0) + 1

    def programs(self, seed, count):
        draw = random.Random(seed)
        for again in range(count):
            if again % 12 == 11:
                yield draw, great_program(draw, draw.randint(1, 6))
            else:
                yield draw, drawn_program(draw, draw.randint(1, 6), halts=draw.choice((0, 0.05, 0.2)), size=4)

    def comings(self, draw, program):
        """Places and stands along drawn runs."""
        return [coming for run in range(3) for coming in walked(program, drawn_run(draw, program, 40, TAKEN))]

    def drawn_lines(self, draw, long, lines):
        """A sum of the lines, another line, and the sum of both."""
        held = sum_of(long, [draw.randint(-3, 3) for line in lines], lines)
        free = tuple(draw.choice((0, 0, 1, -1, NINE_FIGURES)) for place in range(long))
        return held, free, tuple(a + b for a, b in zip(held, free))

    def hold_at(self, program, place, comings, answer, line, is_nought):
        """The answer of said and said_by at a place, held against the comings there."""
        self.count(answer[0])
        worths = [product_sum(line, stand) for there, stand in comings if there == place]
        if answer[0] == "never":
            self.assertNotIn(place, places_come_to(program))
            self.assertEqual(worths, [])
        elif answer[0] == "holds":
            self.assertTrue(all(is_nought(worth) for worth in worths), (program, place, line))
        else:
            self.assertTrue(is_run(program, answer[1]))
            self.assertEqual(ran(program, answer[1]), walked(program, answer[1]))
            there, stand = walked(program, answer[1])[-1]
            self.assertEqual(there, place)
            self.assertFalse(is_nought(product_sum(line, stand)), (program, place, line))

    def test_lines_at_places(self):
        for draw, program in self.programs(31, 100):
            told, comings = notes(program), self.comings(draw, program)
            for place, stand in comings:
                self.assertTrue(all(product_sum(line, stand) == 0 for line in told[place]), program)
            for place in draw.sample(range(len(told)), min(3, len(told))):
                for line in self.drawn_lines(draw, program[0] + 1, told[place] or []):
                    self.hold_at(program, place, comings, said(program, place, line), line, lambda worth: worth == 0)
        self.assertGreater(min(self.seen.values()), 50, self.seen)

    def test_lines_by_rests(self):
        for draw, program in self.programs(32, 100):
            rest = draw.choice((2, 3, 4, 12, 49, 1000, 999983, 1000000))
            told, comings = tables(program, rest), self.comings(draw, program)
            for place, stand in comings:
                self.assertTrue(all(product_sum(line, stand) % rest == 0 for line in told[place]), program)
            for place in draw.sample(range(len(told)), min(3, len(told))):
                for line in self.drawn_lines(draw, program[0] + 1, told[place] or []):
                    answer = said_by(program, place, line, rest)
                    self.hold_at(program, place, comings, answer, line, lambda worth: worth % rest == 0)
        self.assertGreater(min(self.seen.values()), 50, self.seen)

    def test_two_programs_run_alike(self):
        for draw, one in self.programs(33, 250):
            other = deepcopy(one) if one[0] < 4 and draw.random() < 0.5 else like_program(draw, one, draw.randint(1, 4))
            self.assertTrue(one_shape(one, other))
            self.assertEqual([step[:2] for step in laid(one)[1]], [step[:2] for step in laid(other)[1]])
            try:
                both = joined(one, other)
            except NoteError as refusal:
                self.count(refusal.__class__)
                continue
            end = laid_by_signs(one)[2]
            ends = []
            for run in range(8):
                moves = drawn_run(draw, one, draw.randint(0, 40), TAKEN)
                place, stand = both_walked(one, other, moves)
                if place == end:
                    ends.append((end, stand))
            for line in self.drawn_lines(draw, both[0] + 1, notes(both)[laid(both)[2]] or []):
                self.hold_pair(one, other, ends, line)
        self.assertGreater(min(self.seen[name] for name in ("never", "holds", "breaks")), 30, self.seen)

    def hold_pair(self, one, other, ends, line):
        answer = paired(one, other, line)
        self.count(answer[0])
        if answer[0] == "never":
            self.assertEqual(ends, [])
        elif answer[0] == "holds":
            self.assertTrue(all(product_sum(line, stand) == 0 for end, stand in ends), (one, other, line))
        else:
            place, stand = both_walked(one, other, answer[1])
            self.assertEqual(place, laid_by_signs(one)[2])
            self.assertNotEqual(product_sum(line, stand), 0)

    def test_a_box_left_out(self):
        for draw, program in self.programs(34, 200):
            program = with_spare_box(draw, program, draw.randint(0, program[0])) if program[0] < 6 else program
            if not is_a_program(program):
                continue
            for box in range(program[0]):
                try:
                    told = without(program, box)
                except Needed as need:
                    self.count(Needed)
                    self.assertIsNone(fixed(program, need.place, box))
                    self.assertIn(need.place, places_come_to(program))
                except TooGreat:
                    self.count(TooGreat)
                else:
                    self.count("without")
                    self.assertTrue(is_program(told))
                    self.hold_like(draw, program, box, told)
        self.assertGreater(min(self.seen[Needed], self.seen["without"]), 60, self.seen)

    def hold_like(self, draw, program, box, told):
        steps = laid_by_signs(program)[1]
        for run in range(3):
            moves = drawn_run(draw, program, 40, TAKEN)
            like = [(step, None if steps[step][2] == ("take", box) else number) for step, number in moves]
            self.assertTrue(is_run(told, like))
            due = [(place, stand[:box + 1] + stand[box + 2:]) for place, stand in ran(program, moves)]
            self.assertEqual(ran(told, like), due, (program, box))

    def test_what_is_told_is_taken_again(self):
        # The programs that are told are programs like others: shown, read, joined and left out of once more.
        for draw, program in self.programs(35, 100):
            told = [program]
            for asked in (lambda: joined(program, program), lambda: without(program, 0),
                          lambda: joined(told[-1], told[-1]), lambda: without(told[-1], told[-1][0] - 1)):
                try:
                    told.append(asked())
                except NoteError as refusal:
                    self.count(refusal.__class__)
            for each in told:
                self.count("told")
                self.assertTrue(is_program(each))
                self.assertEqual(read(show(each)), each)
                self.assertEqual(laid(each), laid_by_signs(each))
        self.assertGreater(self.seen["told"], 200, self.seen)


if __name__ == "__main__":
    unittest.main()
