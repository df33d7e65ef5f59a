import random
import unittest

from draws import drawn_program, drawn_run
from evennotes.desk import Desk
from evennotes.errors import (
    Needed, NoBox, NoName, NoNumber, NoRow, NoRun, NotAlike, NoteError, NoText, TooGreat)
from evennotes.joins import joined
from evennotes.needless import without
from evennotes.notes import notes, said
from evennotes.rests import said_by, tables
from evennotes.texts import show
from oracles import both_walked, laid_by_signs, product_sum, walked

REFUSALS = (NoRun, NotAlike, NoBox, Needed, TooGreat, NoText, NoRow, NoName, NoNumber)

# Box 0 gets 2 more and box 1 gets 3 more, round and round; behind a halt no run comes.
GROWS = "boxes 2; body; loop; set 0 2 1 0; set 1 3 0 1; end"
TAKES = "boxes 2; body; take 0; set 1 5 1 0; halt; skip"
EMPTY = "boxes 0; body"
SETS = "boxes 3; body; set 2 1 2 3 4; take 0; call 1; body; loop; skip; end"
SIX = "boxes 6; body; skip"
GREAT = "boxes 1; body" + "; take 0" * 39
SUM = "boxes 2; body; take 0; set 1 1 1 0; set 0 0 0 2"
NEEDS = "boxes 2; body; skip; take 0; set 1 0 1 0"
STANDING = (("grows", GROWS), ("takes", TAKES), ("e", EMPTY), ("sets", SETS), ("sixboxes", SIX), ("great", GREAT),
            ("sum", SUM), ("needs", NEEDS))


def desk_with(standing=STANDING):
    desk = Desk()
    for name, text in standing:
        desk.say("program " + name + " " + text)
    return desk


class AtADesk(unittest.TestCase):
    def refuse(self, desk, refusal, row, place=None):
        """Refused with just this, and all stands as it stood."""
        stood = self.all_told(desk)
        for taken in (refusal, NoteError, ValueError):
            self.assertRaises(taken, desk.say, row)
        try:
            desk.say(row)
        except REFUSALS as found:
            self.assertIs(found.__class__, refusal, row)
            self.assertEqual([each for each in REFUSALS if isinstance(found, each)], [refusal])
            if refusal is Needed:
                self.assertEqual(found.place, place)
        self.assertEqual(self.all_told(desk), stood)

    def all_told(self, desk):
        names = [name for name, text in STANDING] + ["new", "a", "abcdefgh"]
        told = {}
        for name in names:
            try:
                told[name] = desk.say("show " + name)
            except NoName:
                told[name] = None
        return told


class Answers(AtADesk):
    def hold(self, rows, desk=None):
        desk = desk or desk_with()
        for row, due in rows:
            self.assertEqual(desk.say(row), due, row)

    def test_program_show_and_drop(self):
        self.hold((("program new boxes 1; body; take 0", "ok"), ("show new", "boxes 1; body; take 0"),
                   ("program new boxes 0; body", "ok"), ("show new", "boxes 0; body"), ("drop new", "ok")))
        desk = desk_with()
        for name, text in STANDING:
            self.assertEqual(desk.say("show " + name), text)
            self.assertEqual(desk.say("drop " + name), "ok")
            self.refuse(desk, NoName, "show " + name)
            self.refuse(desk, NoName, "drop " + name)
            self.assertEqual(desk.say("program " + name + " " + EMPTY), "ok")
            self.assertEqual(desk.say("show " + name), EMPTY)

    def test_names_of_one_and_of_eight_letters(self):
        self.hold((("program a " + EMPTY, "ok"), ("program abcdefgh " + GROWS, "ok"), ("program zzzzzzzz " + SIX, "ok"),
                   ("show a", EMPTY), ("show abcdefgh", GROWS), ("show zzzzzzzz", SIX), ("places a", "1 0"),
                   # The words of rows are names like others.
                   ("program program " + SUM, "ok"), ("program drop " + SUM, "ok"), ("drop drop", "ok"),
                   ("show program", SUM), ("program show " + EMPTY, "ok"), ("show show", EMPTY)))

    def test_places(self):
        self.hold((("places grows", "4 1"), ("places takes", "5 4"), ("places e", "1 0"), ("places sets", "5 3"),
                   ("places great", "40 39")))

    def test_notes(self):
        self.hold((("notes grows 0", "0 1 0; 0 0 1"), ("notes grows 1", "0 -3 2"), ("notes grows 2", "6 -3 2"),
                   ("notes grows 3", "0 -3 2"), ("notes takes 2", "-5 -1 1"), ("notes takes 3", "never"),
                   ("notes takes 4", "never"), ("notes e 0", "none"), ("notes great 0", "0 1"), ("notes great 39", "none"),
                   ("notes sets 1", "0 1 0 0; 0 0 1 0; -1 0 0 1")))

    def test_table(self):
        self.hold((("table grows 1 6", "6 0 0; 0 3 0; 0 0 2"), ("table grows 0 2", "2 0 0; 0 1 0; 0 0 1"),
                   ("table e 0 1000000", "1000000"), ("table e 0 2", "2"), ("table takes 3 7", "never"),
                   ("table great 1 7", "7 0; 0 7"), ("table takes 2 10", "10 0 0; 0 10 0; 5 9 1")))

    def test_said(self):
        self.hold((("said grows 1 0 -3 2", "holds"), ("said grows 1 0 0 0", "holds"), ("said grows 1 0 9 -6", "holds"),
                   ("said grows 1 0 1 0", "breaks 0 1 2 3"), ("said grows 0 1 0 0", "breaks"),
                   ("said takes 3 1 2 3", "never"), ("said takes 4 0 0 0", "never"), ("said e 0 0", "holds"),
                   ("said e 0 -7", "breaks"), ("said takes 1 0 1 0", "breaks 0=1"), ("said takes 1 1 0 0", "breaks 0=0"),
                   ("said takes 2 0 1 0", "breaks 0=1 1"), ("said grows 1 0 -" + "3" * 60 + " " + "2" * 60, "holds")))

    def test_said_by_a_rest(self):
        self.hold((("saidby grows 1 6 0 3 2", "holds"), ("saidby grows 1 6 0 1 1", "breaks 0 1 2 3"),
                   ("saidby grows 1 6 12 -6 " + "6" * 60, "holds"), ("saidby e 0 2 2", "holds"),
                   ("saidby e 0 1000000 1", "breaks"), ("saidby takes 3 2 1 1 1", "never"),
                   ("saidby takes 2 5 0 1 -1", "holds"), ("saidby takes 2 4 0 1 -1", "breaks 0=0 1"),
                   ("saidby takes 1 2 0 1 0", "breaks 0=1")))

    def test_ran(self):
        self.hold((("ran grows", "0 1 0 0"), ("ran grows 0", "1 1 0 0"), ("ran grows 0 1", "2 1 2 0"),
                   ("ran grows 0 1 2 3 1 2", "3 1 4 6"), ("ran takes 0=-5", "1 1 -5 0"), ("ran takes 0=0 1", "2 1 0 5"),
                   ("ran takes 0=999999999 1", "2 1 999999999 1000000004"), ("ran e", "0 1"),
                   ("ran takes 0=" + "9" * 60, "1 1 " + "9" * 60 + " 0"),
                   ("ran takes 0=-" + "9" * 60 + " 1", "2 1 -" + "9" * 60 + " -" + "9" * 59 + "4"),
                   ("ran grows 0" + " 1 2 3" * 1999 + " 1 2", "3 1 4000 6000")))

    def test_join(self):
        self.hold((("join new takes takes", "ok"),
                   ("show new", "boxes 4; body; take 0; set 2 0 1 0 0 0; set 1 5 1 0 0 0; set 3 5 0 0 1 0; halt; skip"),
                   ("show takes", TAKES)))
        self.hold((("program six boxes 6; body", "ok"), ("join new e six", "ok"), ("show new", "boxes 6; body"),
                   ("join new six e", "ok"), ("join e e e", "ok"), ("show e", EMPTY)))

    def test_join_under_a_name_that_is_read(self):
        text = "boxes 4; body; loop; set 0 2 1 0 0 0; set 2 2 0 0 1 0; set 1 3 0 1 0 0; set 3 3 0 0 0 1; end"
        for row in ("join grows grows grows", "join new grows grows", "join sum grows grows"):
            self.hold(((row, "ok"), ("show " + row.split(" ")[1], text)))
        standing = (("one", "boxes 1; body; take 0"), ("other", "boxes 2; body; take 1"))
        self.hold((("join one one other", "ok"), ("show one", "boxes 3; body; take 0; set 2 0 1 0 0"),
                   ("show other", "boxes 2; body; take 1")), desk_with(standing))
        self.hold((("join other one other", "ok"), ("show other", "boxes 3; body; take 0; set 2 0 1 0 0"),
                   ("show one", "boxes 1; body; take 0")), desk_with(standing))
        self.hold((("join other other one", "ok"), ("show other", "boxes 3; body; take 1; set 2 0 0 1 0")),
                  desk_with(standing))

    def test_without(self):
        self.hold((("without new sum 1", "ok"), ("show new", "boxes 1; body; take 0; skip; set 0 2 2"),
                   ("show sum", SUM), ("without sum sum 1", "ok"), ("show sum", "boxes 1; body; take 0; skip; set 0 2 2"),
                   ("without new sets 2", "ok"), ("show new", "boxes 2; body; skip; take 0; loop; skip; end"),
                   ("without grows sets 2", "ok"), ("show grows", "boxes 2; body; skip; take 0; loop; skip; end")))

    def test_paired(self):
        self.hold((("paired grows grows 0 1 0 -1 0", "holds"), ("paired grows grows 0 3 0 0 -2", "holds"),
                   ("paired grows grows 0 1 0 0 -1", "breaks 0 1 2 3"), ("paired grows grows 1 0 0 0 0", "breaks 0"),
                   ("paired takes takes 0 0 0 0 0", "never"), ("paired e e 0", "holds"), ("paired e e 3", "breaks"),
                   ("program one boxes 1; body; take 0", "ok"), ("paired one one 0 1 -1", "holds"),
                   ("paired one one 0 1 1", "breaks 0=1"), ("paired one one 2 1 1", "breaks 0=0"),
                   ("program other boxes 3; body; take 2", "ok"), ("paired one other 0 1 0 0 -1", "holds"),
                   ("paired other one 0 0 0 1 -1", "holds"), ("paired other one 0 1 0 1 -1", "holds"),
                   ("paired other one 0 1 0 1 -2", "breaks 0=1")))

    def test_two_desks_know_nothing_of_one_another(self):
        one, other = Desk(), Desk()
        one.say("program a " + GROWS)
        self.refuse(other, NoName, "show a")
        other.say("program a " + SUM)
        self.assertEqual((one.say("show a"), other.say("show a")), (GROWS, SUM))
        one.say("drop a")
        self.refuse(one, NoName, "show a")
        self.assertEqual(other.say("show a"), SUM)
        self.refuse(Desk(), NoName, "show a")

    def test_a_joined_program_stands_by_itself(self):
        desk = desk_with((("one", "boxes 1; body; loop; take 0; end"),))
        desk.say("join new one one")
        text = desk.say("show new")
        for row in ("program one " + EMPTY, "drop one"):
            desk.say(row)
            self.assertEqual(desk.say("show new"), text)

    def test_drawn_programs(self):
        draw = random.Random(241)
        for again in range(60):
            program = drawn_program(draw, draw.randint(1, 3), halts=0.1, size=4)
            desk = Desk()
            desk.say("program one " + show(program))
            self.hold_answers(draw, desk, program)

    def hold_answers(self, draw, desk, program):
        count, steps, end = laid_by_signs(program)
        self.assertEqual(desk.say("places one"), str(count) + " " + str(end))
        place, rest = draw.randrange(count), draw.choice((2, 6, 1000000))
        for row, lines in (("notes one " + str(place), notes(program)[place]),
                           ("table one " + str(place) + " " + str(rest), tables(program, rest)[place])):
            due = "never" if lines is None else "; ".join(" ".join(map(str, line)) for line in lines) or "none"
            self.assertEqual(desk.say(row), due)
        line = tuple(draw.choice((0, 0, 1, -1, 6)) for each in range(program[0] + 1))
        numbers = " ".join(map(str, line))
        self.hold_said(desk, program, place, line, desk.say(f"said one {place} {numbers}"),
                       said(program, place, line)[0], lambda number: number != 0)
        self.hold_said(desk, program, place, line, desk.say(f"saidby one {place} {rest} {numbers}"),
                       said_by(program, place, line, rest)[0], lambda number: number % rest != 0)

    def hold_said(self, desk, program, place, line, answer, name, breaks):
        self.assertEqual(answer.split(" ")[0], name)
        if name != "breaks":
            self.assertEqual(answer, name)
            return
        # The told moves are handed in again as they are written.
        moves = answer[len("breaks"):]
        there, *stand = map(int, desk.say("ran one" + moves).split(" "))
        self.assertEqual(there, place)
        self.assertTrue(breaks(product_sum(line, stand)))

    def test_drawn_runs(self):
        draw = random.Random(242)
        for again in range(60):
            program = drawn_program(draw, draw.randint(1, 4), size=4)
            desk = Desk()
            desk.say("program one " + show(program))
            moves = drawn_run(draw, program, 40)
            place, stand = walked(program, moves)[-1]
            words = [str(step) if number is None else f"{step}={number}" for step, number in moves]
            self.assertEqual(desk.say(" ".join(["ran", "one"] + words)), " ".join(map(str, (place,) + stand)))

    def test_drawn_joins_and_boxes_left_out(self):
        draw = random.Random(243)
        done = {"join": 0, "without": 0}
        for again in range(60):
            program = drawn_program(draw, draw.randint(1, 3), size=3)
            desk = Desk()
            desk.say("program one " + show(program))
            for kind, row, asked in (("join", "join new one one", lambda: joined(program, program)),
                                     ("without", "without new one 0", lambda: without(program, 0))):
                try:
                    due = asked()
                except NoteError as refusal:
                    self.assertRaises(refusal.__class__, desk.say, row)
                else:
                    self.assertEqual((desk.say(row), desk.say("show new")), ("ok", show(due)))
                    done[kind] += 1
            self.hold_paired(draw, desk, program)
        self.assertGreater(min(done.values()), 20, done)

    def hold_paired(self, draw, desk, program):
        line = tuple(draw.choice((0, 0, 1, -1, 6)) for each in range(2 * program[0] + 1))
        try:
            answer = desk.say("paired one one " + " ".join(map(str, line)))
        except TooGreat:
            return
        if answer.startswith("breaks"):
            words = [word.partition("=") for word in answer.split(" ")[1:]]
            moves = [(int(step), int(number) if sign else None) for step, sign, number in words]
            place, stand = both_walked(program, program, moves)
            self.assertEqual(place, laid_by_signs(program)[2])
            self.assertNotEqual(product_sum(line, stand), 0)
        else:
            self.assertIn(answer, ("never", "holds"))


class Refused(AtADesk):
    def refuse_all(self, refusal, rows):
        desk = desk_with()
        for row in rows:
            self.refuse(desk, refusal, row)

    def test_no_row(self):
        self.refuse_all(NoRow, (
            None, 0, True, [], ["show", "e"], ("show", "e"), {},
            "", " ", "  ", "nothing", "Show e", "SHOW e", "shows e", "show;", "program", "list", "tables e 0 2",
            " show e", "  show e", " program e " + EMPTY, "help"))

    def test_words_too_few(self):
        self.refuse_all(NoRow, (
            "program", "program new", "drop", "show", "places", "notes", "notes e", "table", "table e", "table e 0",
            "said", "said e", "said e 0", "saidby", "saidby e", "saidby e 0", "saidby e 0 2", "ran", "join", "join new",
            "join new e", "without", "without new", "without new sum", "paired", "paired e", "paired e e"))

    def test_words_too_many(self):
        self.refuse_all(NoRow, (
            "drop e e", "show e e", "places e 0", "notes e 0 0", "table e 0 2 2", "join new e e e", "without new sum 1 1",
            # A blank more is a word more.
            "drop e ", "show e ", "show  e", "places e ", "places  e", "notes e 0 ", "notes  e 0", "notes e  0",
            "table e 0 2 ", "table e  0 2", "join new e e ", "join  new e e", "without new sum 1 ", "without new  sum 1"))

    def test_no_row_goes_ahead_of_no_name(self):
        self.refuse_all(NoRow, ("show X X", "notes X", "program X", "said nobody 0", "join X Y", "drop x y z"))

    def test_no_name(self):
        wrong = ("", "abcdefghi", "A", "Ab", "aB", "a1", "1", "a_b", "a-b", "a.b", "a;", "~", "-", "=", "a=b", "ABCDEFGH",
                 "abcdefgH", "aaaaaaaaaaaaaaaaaaaaaaaa")
        unknown = ("new", "f", "gro", "growsx", "x")
        for name in wrong + unknown:
            self.refuse_all(NoName, (
                "drop " + name, "show " + name, "places " + name, "notes " + name + " 0", "table " + name + " 0 2",
                "said " + name + " 0 0", "saidby " + name + " 0 2 0", "ran " + name, "ran " + name + " 0 1",
                "join new " + name + " e", "join new e " + name, "without new " + name + " 0", "paired " + name + " e 0",
                "paired e " + name + " 0"))
        for name in wrong:
            self.refuse_all(NoName, ("program " + name + " " + EMPTY, "join " + name + " e e",
                                     "without " + name + " sum 1"))

    def test_two_blanks_at_a_name(self):
        self.refuse_all(NoName, ("program  " + EMPTY, "program  e " + EMPTY, "show ", "drop ", "places ", "ran ", "ran  0",
                                 "said  e 0 0", "paired  e e 0", "paired e  e 0", "join  e e", "without  sum 1"))

    def test_no_name_goes_ahead_of_no_number_and_no_text(self):
        self.refuse_all(NoName, (
            "notes nobody x", "table nobody x x", "said nobody x x", "saidby nobody x x x", "ran nobody x",
            "without X sum x", "without new nobody x", "without new nobody 9", "paired e nobody x", "paired nobody e x",
            "program X nothing", "program X ", "program a1 boxes", "join X grows sum", "join X great great"))

    def test_places_that_are_none(self):
        wrong = ("", "-1", "x", "00", "01", "+0", "-0", "0.0", "1_0", "0x0", "--1", "-", "~", "0=0", "9" * 60, "9" * 61,
                 "9" * 5000)
        for word in wrong + ("1",):
            self.refuse_all(NoNumber, ("notes e " + word, "table e " + word + " 2", "said e " + word + " 0",
                                       "saidby e " + word + " 2 0"))
        self.refuse_all(NoNumber, ("notes grows 4", "notes great 40", "table grows 4 2", "said grows 4 0 0 0",
                                   "saidby grows 4 2 0 0 0"))

    def test_rests_that_are_none(self):
        for word in ("", "0", "1", "-1", "-2", "1000001", "02", "+2", "2.0", "x", "9" * 60, "9" * 61, "1_0"):
            self.refuse_all(NoNumber, ("table e 0 " + word, "saidby e 0 " + word + " 0", "table takes 3 " + word))

    def test_lines_that_are_none(self):
        self.refuse_all(NoNumber, (
            "said e 0 0 0", "said e 0 ", "said e 0  0", "said e 0 0 ", "said e 0 x", "said e 0 -0", "said e 0 00",
            "said e 0 +1", "said e 0 " + "9" * 61, "said e 0 -" + "9" * 61, "said grows 1 0 1", "said grows 1 0 1 2 3",
            "said grows 1 0  2", "said grows 1 0 1 2 ", "said grows 1  0 1", "said grows 1 0 1 x", "said takes 3 0 0",
            "saidby e 0 2 0 0", "saidby e 0 2 ", "saidby e 0 2 x", "saidby grows 1 2 0 1", "saidby grows 1 2 0 1 2 3",
            "saidby grows 1 2 0 1 02", "saidby takes 3 2 0 0", "saidby grows 1 0 1 2",
            "paired e e ", "paired e e 0 0", "paired e e x", "paired grows grows 0 0 0 0", "paired grows grows 0 0 0",
            "paired grows grows 0 0 0 0 0 0", "paired grows grows 0 0 0 0 -0", "paired grows grows 0 0  0 0"))

    def test_boxes_and_steps_that_are_not_written_so(self):
        for word in ("", "-1", "x", "01", "00", "-0", "+1", "1=1", "9" * 61):
            self.refuse_all(NoNumber, ("without new sum " + word, "without sum sum " + word))
        for word in ("", "-1", "x", "01", "00", "-0", "+1", "9" * 61, "=", "=0", "0=", "0=x", "0=01", "0=+1", "0=-0", "0=-",
                     "x=1", "-1=1", "00=1", "0=1=1", "0==1", "0=1=", "0=" + "9" * 61, "0;", "0,1"):
            self.refuse_all(NoNumber, ("ran takes " + word, "ran takes 0=1 " + word, "ran takes 9 " + word))
        self.refuse_all(NoNumber, ("ran takes 0=1 ", "ran takes  0=1", "ran takes 0=1  1", "ran e ", "ran grows 7 x"))

    def test_no_number_goes_ahead_of_the_rest(self):
        # Of these the numbers alone are wrong first: the programs can't be joined, the box isn't there.
        self.refuse_all(NoNumber, (
            "paired grows sum 0", "paired sixboxes sixboxes 0", "paired great great 0", "paired great great 0 0 x",
            "without new e x", "without new needs -0", "ran grows 9 x", "ran grows 5 0=", "said takes 3 0"))

    def test_no_text(self):
        self.refuse_all(NoText, (
            "program new ", "program e ", "program new  " + EMPTY, "program new " + EMPTY + " ", "program e nothing",
            "program new boxes 7; body", "program e boxes 1; body; take 1", "program new boxes  0; body",
            "program new show e", "program e boxes 0; body" + "; skip" * 40, "program new boxes 0; body; loop",
            "program abcdefgh boxes 1; body; set 0 1 02"))

    def test_no_run(self):
        self.refuse_all(NoRun, (
            "ran e 0", "ran e 0=1", "ran grows 1", "ran grows 0 0", "ran grows 0 1 2 3 4", "ran grows 4", "ran grows 0=1",
            "ran grows 0 1=0", "ran takes 0", "ran takes 0=1 1=1", "ran takes 0=1 2", "ran takes 0=1 1 2",
            "ran takes " + "9" * 60, "ran takes 0=1 1 1", "ran grows 999999999"))

    def test_not_alike(self):
        zeros = " 0" * 13
        self.refuse_all(NotAlike, (
            "join new grows sum", "join grows grows sum", "join new e sixboxes", "join new sixboxes sixboxes",
            "join sixboxes sixboxes sixboxes", "paired grows sum 0 0 0 0 0", "paired e grows 0 0 0",
            "paired sixboxes sixboxes" + zeros, "paired sixboxes grows 1 2 3 4 5 6 7 8 9", "join new e grows"))

    def test_too_great(self):
        desk = desk_with()
        for row in ("join new great great", "join great great great", "paired great great 0 0 0"):
            self.refuse(desk, TooGreat, row)
        desk.say("program a boxes 2; body; set 0 1000 0 0; set 1 0 1000 0")
        for row in ("without new a 0", "without a a 0"):
            self.refuse(desk, TooGreat, row)
        desk.say("program a boxes 4; body" + "; take 0" * 20)
        self.refuse(desk, NotAlike, "join new a a")

    def test_no_box(self):
        self.refuse_all(NoBox, ("without new e 0", "without e e 0", "without new sum 2", "without sum sum 2",
                                "without new sixboxes 6", "without new needs 2", "without new sum " + "9" * 60))

    def test_needed(self):
        desk = desk_with()
        self.refuse(desk, Needed, "without new needs 0", 2)
        self.refuse(desk, Needed, "without needs needs 0", 2)
        desk.say("program a boxes 3; body; set 2 999999 0 0 0; set 1 1 0 0 1; take 2; set 1 0 0 0 1")
        self.refuse(desk, Needed, "without new a 2", 3)
        self.refuse(desk, NoBox, "without new a 3")

    def test_what_is_refused_changes_nothing(self):
        desk = desk_with()
        for row, refusal in (("program sum boxes 7; body", NoText), ("join sum grows sum", NotAlike),
                             ("join sum great great", TooGreat), ("without sum needs 0", Needed),
                             ("without sum sum 2", NoBox), ("without sum sum x", NoNumber), ("drop sum sum", NoRow)):
            self.assertRaises(refusal, desk.say, row)
            self.assertEqual(desk.say("show sum"), SUM)
        self.assertEqual(desk.say("notes sum 2"), "-1 -1 1")


if __name__ == "__main__":
    unittest.main()
