import random
import unittest
from copy import deepcopy

from draws import HALT, SKIP, deep, drawn_program, great_program
from evennotes.errors import Needed, NoBox, NoName, NoNumber, NoRow, NoRun, NotAlike, NoteError, NoText, TooGreat
from evennotes.texts import read, show
from oracles import change_lists, is_a_program, program_by_literal, text_by_signs

BY_HAND = (
    ((0, [[]]), "boxes 0; body"),
    ((6, [[]]), "boxes 6; body"),
    ((0, [[], [], [], []]), "boxes 0; body; body; body; body"),
    ((1, [[("set", 0, (1, 2))]]), "boxes 1; body; set 0 1 2"),
    ((2, [[("set", 1, (0, -5, 10))]]), "boxes 2; body; set 1 0 -5 10"),
    ((6, [[("set", 5, (999999, -999999, 100000, -100000, 0, 7, -1))]]),
     "boxes 6; body; set 5 999999 -999999 100000 -100000 0 7 -1"),
    ((3, [[("take", 2)]]), "boxes 3; body; take 2"),
    ((0, [[SKIP, HALT]]), "boxes 0; body; skip; halt"),
    ((0, [[("call", 1), ("call", 2)], [("call", 2)], []]), "boxes 0; body; call 1; call 2; body; call 2; body"),
    ((0, [[("either", [], [])]]), "boxes 0; body; either; or; end"),
    ((0, [[("either", [SKIP], [])]]), "boxes 0; body; either; skip; or; end"),
    ((0, [[("either", [], [SKIP, HALT]), SKIP]]), "boxes 0; body; either; or; skip; halt; end; skip"),
    ((0, [[("loop", [])]]), "boxes 0; body; loop; end"),
    ((0, [[("loop", [SKIP]), SKIP]]), "boxes 0; body; loop; skip; end; skip"),
    ((1, [[("loop", [("either", [("loop", []), ("take", 0)], [("either", [], [SKIP])])])], [HALT]]),
     "boxes 1; body; loop; either; loop; end; take 0; or; either; or; skip; end; end; end; body; halt"),
    ((0, [deep(6, [])]), "boxes 0; body; " + "loop; " * 6 + "end" + "; end" * 5),
    ((0, [[SKIP] * 39]), "boxes 0; body" + "; skip" * 39),
)

# Each of these is one wrong thing away from a text of a program.
WRONG = {
    "the empty text": [""],
    "no boxes, no body": ["boxes", "body", "boxes 1", "boxes; body", "boxes 1 1; body", "1; body", "body; boxes 1",
                          "box 1; body", "boxes 1; skip", "boxes 1; loop; end", "boxes 1; end; body",
                          "boxes 1; boxes 1; body", "boxes 1; body; boxes 1", "boxes 1; skip; body; skip",
                          "boxes 0; loop; body; end", "boxes 0; loop; skip; end; body", "boxes 0; either; or; end; body"],
    "too many or too few blanks": [
        " boxes 1; body", "boxes 1; body ", "boxes  1; body", "boxes1; body", "boxes 1;body", "boxes 1;  body",
        "boxes 1 ; body", "boxes 1; body; set 0 1  2", "boxes 1; body; set  0 1 2", "boxes 1; body; set 0 1 2 ",
        "boxes 1; body;  set 0 1 2", "boxes 1; body; set 01 2", "boxes 1; body; take0", "boxes 1; body; take  0",
        "boxes 1; body ; take 0", "boxes 1; body; skip ", "boxes 1; body;skip", "boxes 1; body;  skip", " ", "  "],
    "too many or too few semicolons": [
        "boxes 1 body", "boxes 1; body;", "boxes 1; body; ", "; boxes 1; body", "boxes 1;; body", "boxes 1; ; body",
        "boxes 1; body; skip; ", "boxes 1; body; skip;", "boxes 1; body skip", "boxes 1; body; take 0 skip",
        "boxes 1, body", ";", "; "],
    "a missing or a spare or, a missing or a spare end": [
        "boxes 0; body; either; end", "boxes 0; body; either; or", "boxes 0; body; either", "boxes 0; body; loop",
        "boxes 0; body; or", "boxes 0; body; end", "boxes 0; body; or; end", "boxes 0; body; loop; or; end",
        "boxes 0; body; either; or; or; end", "boxes 0; body; either; or; end; end", "boxes 0; body; loop; end; end",
        "boxes 0; body; either; loop; or; end; end", "boxes 0; body; loop; either; or; end",
        "boxes 0; body; either; or; end; or", "boxes 0; body; loop; body; end", "boxes 0; body; either; body; or; end",
        "boxes 0; body; either; or; body; end", "boxes 0; body; skip; end", "boxes 0; body; loop; loop; end; body",
        "boxes 0; body; either; either; or; end; end", "boxes 0; body; either; skip; end; skip; or; end"],
    "numbers that aren't written so": [
        "boxes 01; body", "boxes +1; body", "boxes -0; body", "boxes 1.0; body", "boxes one; body", "boxes ; body",
        "boxes -; body", "boxes 1_0; body", "boxes 0x1; body", "boxes 00; body",
        "boxes 1; body; set 0 1 02", "boxes 1; body; set 0 1 -0", "boxes 1; body; set 0 1 +2",
        "boxes 1; body; set 0 1 -02", "boxes 1; body; set 0 1 --2", "boxes 1; body; set 0 1 2-",
        "boxes 1; body; set 0 1 -", "boxes 1; body; set 0 1 x", "boxes 1; body; set 0 1 1e1",
        "boxes 1; body; set 00 1 2", "boxes 1; body; set -0 1 2", "boxes 1; body; set +0 1 2",
        "boxes 1; body; take 00", "boxes 1; body; take -0", "boxes 1; body; take +0", "boxes 1; body; take x",
        "boxes 1; body; set 0 00 1", "boxes 1; body; set 0 1 1_0",
        "boxes 0; body; call 01; body", "boxes 0; body; call +1; body", "boxes 0; body; call x; body"],
    "great letters and other words": [
        "Boxes 0; body", "BOXES 0; body", "boxes 0; Body", "boxes 0; body; Skip", "boxes 0; body; HALT",
        "boxes 0; body; Loop; end", "boxes 0; body; loop; End", "boxes 0; body; either; OR; end",
        "boxes 1; body; Set 0 1 2", "boxes 1; body; Take 0", "boxes 0; body; Call 1; body", "boxes 0; body; stop",
        "boxes 0; body; nothing", "boxes 0; body; ski", "boxes 0; body; skips", "boxes 0; bodies", "~", "boxes 0; body; ~"],
    "words too few or too many": [
        "boxes 1; body; set", "boxes 1; body; set 0", "boxes 1; body; set 0 1", "boxes 1; body; set 0 1 2 3",
        "boxes 1; body; take", "boxes 1; body; take 0 0", "boxes 0; body; skip 0", "boxes 0; body; skip skip",
        "boxes 0; body; halt 0", "boxes 0; body; call; body", "boxes 0; body; call 1 1; body", "boxes 0; body 0",
        "boxes 0; body; loop 0; end", "boxes 0; body; loop; end 0", "boxes 0; body; either 0; or; end",
        "boxes 0; body; either; or 0; end", "boxes 0; body; loop 1", "boxes 0; body; either 1 1"],
    "boxes, bodies and lines that aren't there": [
        "boxes 7; body", "boxes -1; body", "boxes 0; body; take 0", "boxes 1; body; take 1", "boxes 1; body; take -1",
        "boxes 1; body; set 1 1 2", "boxes 1; body; set -1 1 2", "boxes 0; body; set 0 1",
        "boxes 0; body; call 0", "boxes 0; body; call 1", "boxes 0; body; body; call 1", "boxes 0; body; body; call 0",
        "boxes 0; body; call 2; body", "boxes 0; body; call -1; body", "boxes 0; body; body; body; body; body"],
    "numbers too great": [
        "boxes 1; body; set 0 1 1000000", "boxes 1; body; set 0 -1000000 1", "boxes 1; body; set 0 1 " + "9" * 60,
        "boxes 1; body; set 0 1 " + "9" * 61, "boxes 1; body; set 0 1 " + "9" * 5000, "boxes " + "1" * 8000 + "; body",
        "boxes 1; body; take " + "1" * 60, "boxes 0; body; call " + "1" * 60 + "; body"],
    "rows too deep": [
        "boxes 0; body; " + "loop; " * 7 + "end" + "; end" * 6,
        "boxes 0; body; " + "loop; " * 6 + "skip" + "; end" * 6,
        "boxes 0; body; " + "either; " * 6 + "skip" + "; or; end" * 6,
        "boxes 0; body; " + "loop; " * 5 + "call 1" + "; end" * 5 + "; body; loop; skip; end",
        "boxes 0; body; " + "loop; " * 800 + "end" + "; end" * 799,
        "boxes 0; body; " + "loop; " * 1000 + "skip", "boxes 0; body" + "; either" * 1000],
    "too many places": [
        "boxes 0; body" + "; skip" * 40, "boxes 0; body" + "; halt" * 40, "boxes 0; body; body" + "; skip" * 40,
        "boxes 0; body" + "; call 1" * 4 + "; body" + "; skip" * 10, "boxes 0; body" + "; loop; end" * 40,
        "boxes 0; body" + "; either; or; end" * 40, "boxes 0; body" + "; skip" * 1400],
}


class Show(unittest.TestCase):
    def test_by_hand(self):
        for program, text in BY_HAND:
            kept = deepcopy(program)
            self.assertEqual(show(program), text)
            self.assertEqual(program, kept)

    def test_drawn_programs(self):
        draw = random.Random(231)
        for again in range(300):
            program = drawn_program(draw) if again % 10 else great_program(draw, draw.randint(1, 6))
            self.assertEqual(show(program), text_by_signs(program))


class Read(unittest.TestCase):
    def refuse(self, thing):
        for taken in (NoText, NoteError, ValueError):
            self.assertRaises(taken, read, thing)
        try:
            read(thing)
        except (NoRun, NotAlike, NoBox, Needed, TooGreat, NoRow, NoName, NoNumber):
            self.fail("another refusal")
        except NoText:
            pass

    def hold(self, text):
        """A program that has just this text, or refused, as the second reader tells it."""
        due = program_by_literal(text)
        if due is None:
            self.refuse(text)
        else:
            self.assertEqual(read(text), due, text)
            self.assertEqual(show(due), text)
        return due is not None

    def test_by_hand(self):
        for program, text in BY_HAND:
            self.assertEqual(read(text), program)
            self.assertTrue(self.hold(text))

    def test_the_parts_are_of_the_right_kinds(self):
        program = read("boxes 1; body; set 0 1 2; loop; either; take 0; or; end; end; body")
        self.assertTrue(is_a_program(program))
        self.assertEqual(program, (1, [[("set", 0, (1, 2)), ("loop", [("either", [("take", 0)], [])])], []]))

    def test_each_program_has_its_text(self):
        draw = random.Random(232)
        for again in range(400):
            program = drawn_program(draw) if again % 10 else great_program(draw, draw.randint(1, 6))
            self.assertEqual(read(show(program)), program)

    def test_wrong_texts(self):
        for why, texts in WRONG.items():
            for text in texts:
                self.assertLessEqual(len(text), 9000)
                with self.subTest(why=why, text=text[:60]):
                    self.refuse(text)
                    self.assertIsNone(program_by_literal(text) if len(text) < 500 else None)

    def test_what_is_no_text(self):
        for thing in (None, 0, 1, True, False, [], ["boxes 0; body"], (), ("boxes 0; body",), (0, [[]]), {}):
            self.refuse(thing)

    def test_each_blank_and_semicolon(self):
        for program, text in BY_HAND:
            for place, sign in enumerate(text):
                if sign in " ;":
                    self.assertFalse(self.hold(text[:place] + text[place + 1:]))
                    self.assertFalse(self.hold(text[:place] + sign + text[place:]))
            for other in (" " + text, text + " ", ";" + text, text + ";", text + "; ", "; " + text, text.upper()):
                self.assertFalse(self.hold(other))

    def test_each_sign_left_out(self):
        text = BY_HAND[14][1]
        for place in range(len(text)):
            self.hold(text[:place] + text[place + 1:])

    def test_each_row_left_out_told_twice_or_moved(self):
        told = {True: 0, False: 0}
        for program, text in BY_HAND:
            rows = text.split("; ")
            for number, row in enumerate(rows):
                told[self.hold("; ".join(rows[:number] + rows[number + 1:]))] += 1
                told[self.hold("; ".join(rows[:number + 1] + rows[number:]))] += 1
                told[self.hold("; ".join(rows[:number] + rows[number + 1:] + [row]))] += 1
        self.assertGreater(min(told.values()), 60, told)

    def test_drawn_changes(self):
        draw = random.Random(233)
        words = ["body", "either", "or", "end", "loop", "skip", "halt", "take 0", "take 1", "call 1", "call 2",
                 "set 0 1 2", "set 0 1 2 3", "set 1 -1 0 0", "set 0 01 2", "take -1", "boxes 1", "Skip", ""]
        told = {True: 0, False: 0}
        for again in range(1500):
            rows = show(drawn_program(draw, draw.randint(0, 2), size=4)).split("; ")
            for change in range(draw.randint(1, 3)):
                place = draw.randrange(len(rows) + 1)
                rows[place:place + draw.randint(0, 1)] = draw.choice(([], [draw.choice(words)]))
            told[self.hold("; ".join(rows))] += 1
        self.assertGreater(min(told.values()), 200, told)

    def test_drawn_signs(self):
        draw = random.Random(234)
        told = {True: 0, False: 0}
        for again in range(1500):
            text = show(drawn_program(draw, draw.randint(1, 3), size=3))
            place = draw.randrange(len(text) + 1)
            sign = draw.choice("0123456789-+; abcdelnoprstxyABZ~=")
            told[self.hold(text[:place] + sign + text[place + draw.randint(0, 1):])] += 1
        self.assertGreater(min(told.values()), 50, told)


class TakenAsItIsThen(unittest.TestCase):
    def test_what_is_told_is_the_askers_own(self):
        text = "boxes 1; body; loop; either; take 0; or; skip; end; end; call 1; body; skip"
        told = read(text)
        due = deepcopy(told)
        change_lists(told)
        self.assertNotEqual(told, due)
        self.assertEqual(read(text), due)

    def test_no_two_lists_are_one(self):
        told = read("boxes 0; body; loop; end; loop; end; either; or; end; body; body")
        told[1][0][0][1].append(SKIP)
        told[1][1].append(HALT)
        self.assertEqual(told, (0, [[("loop", [SKIP]), ("loop", []), ("either", [], [])], [HALT], []]))

    def test_a_program_that_is_changed_is_taken_as_it_is_then(self):
        rows = [SKIP]
        program = (0, [[("loop", rows)]])
        self.assertEqual(show(program), "boxes 0; body; loop; skip; end")
        rows[0] = HALT
        self.assertEqual(show(program), "boxes 0; body; loop; halt; end")


if __name__ == "__main__":
    unittest.main()
