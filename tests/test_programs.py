import random
import unittest
from copy import deepcopy

from draws import HALT, SKIP, deep
from evennotes.programs import is_program
from oracles import is_a_program

LINE = (1, -2, 3)
JUNK = [None, True, False, 0, 1, 2, -1, 7, 999999, 1000000, -1000000, 10 ** 60 - 1, 1 - 10 ** 60, "", "set", "skip",
        "halt", "0", (), [], (1,), [1], ("skip",), ["skip"], [("skip",)], (0, 0), (0, 0, 0), [0, 0, 0], ("no",),
        ("call", 1), ("loop", []), ("either", [], []), ("take", 0), ("take", True), ("set", 0, (0, 0, 0))]


def deep_by_eithers(many, rows, side):
    for k in range(many):
        rows = [("either", rows, [SKIP]) if side == 0 else ("either", [SKIP], rows)]
    return rows


class Programs(unittest.TestCase):
    def hold(self, due, thing):
        kept = deepcopy(thing)
        told = is_program(thing)
        self.assertIs(told, due, thing)
        self.assertEqual(repr(thing), repr(kept))

    def each(self, due, rows, many=2):
        """The rows are held where they may stand: in a body, a later one, a loop, and each list of an either."""
        self.hold(due, (many, [rows]))
        self.hold(due, (many, [[], rows, []]))
        self.hold(due, (many, [[SKIP, ("loop", rows)]]))
        self.hold(due, (many, [[("either", rows, []), SKIP]]))
        self.hold(due, (many, [[("either", [], rows)]]))
        self.hold(due, (many, [[("loop", [("either", [SKIP], [HALT, ("loop", rows)])])]]))

    def test_each_sort_of_row(self):
        for row in (("set", 0, LINE), ("set", 1, (0, 0, 0)), ("take", 0), ("take", 1), SKIP, HALT, ("loop", []),
                    ("either", [], []), ("loop", [SKIP]), ("either", [SKIP], [HALT, SKIP])):
            self.each(True, [row])
            self.each(True, [SKIP, row, HALT, row])

    def test_empty_lists(self):
        self.each(True, [])
        for count in range(1, 5):
            self.hold(True, (0, [[] for k in range(count)]))

    def test_how_many_boxes(self):
        for many in range(7):
            self.hold(True, (many, [[]]))
            for box in range(-2, 9):
                self.hold(0 <= box < many, (many, [[("take", box)]]))
                self.hold(0 <= box < many, (many, [[("set", box, (0,) * (many + 1))]]))
        for many in (-1, 7, 8, 10 ** 59, -10 ** 59, True, False, None, "2", (2,), [2]):
            self.hold(False, (many, [[]]))

    def test_how_many_numbers_in_a_line(self):
        for many in range(1, 7):
            for long in range(9):
                self.hold(long == many + 1, (many, [[("set", 0, (1,) * long)]]))

    def test_six_and_seven_figures(self):
        for number in (999999, -999999, 100000, -100000, 0):
            for place in range(3):
                self.each(True, [("set", 1, tuple(number if k == place else 0 for k in range(3)))])
        for number in (1000000, -1000000, 9999999, 10 ** 59, -10 ** 59):
            for place in range(3):
                self.each(False, [("set", 1, tuple(number if k == place else 0 for k in range(3)))])

    def test_how_many_bodies(self):
        for count in range(8):
            self.hold(1 <= count <= 4, (1, [[SKIP] for k in range(count)]))

    def test_calls_lead_to_later_bodies(self):
        for count in range(1, 5):
            for own in range(count):
                for called in range(-2, 7):
                    for rows in ([("call", called)], [("loop", [("call", called)])],
                                 [SKIP, ("either", [("loop", [("call", called)])], [])],
                                 [("either", [], [SKIP, ("call", called)])]):
                        bodies = [[SKIP] for k in range(count)]
                        bodies[own] = rows
                        self.hold(own < called < count, (1, bodies))

    def test_truths_are_no_whole_numbers(self):
        for truth in (True, False):
            self.each(False, [("take", truth)])
            self.each(False, [("set", truth, LINE)])
            for place in range(3):
                self.each(False, [("set", 0, tuple(truth if k == place else 0 for k in range(3)))])
            self.hold(False, (2, [[("call", truth)], []]))
            self.hold(False, (truth, [[]]))

    def test_lists_and_tuples_are_not_the_same(self):
        self.hold(False, [1, [[]]])
        self.hold(False, (1, ([],)))
        self.hold(False, (1, [()]))
        self.hold(False, (1, [(SKIP,)]))
        self.hold(False, (1, [SKIP]))
        for row in (["skip"], ["halt"], ["take", 0], ["set", 0, LINE], ["loop", []], ["either", [], []],
                    ("set", 0, list(LINE)), ("loop", ()), ("loop", (SKIP,)), ("either", (), []), ("either", [], ()),
                    ("either", [SKIP], (SKIP,)), ("loop", SKIP)):
            self.each(False, [row])
        self.hold(False, (1, [[["call", 1]], []]))

    def test_rows_of_another_form(self):
        for row in ((), ("skip", 0), ("skip", None), ("halt", 0), ("take",), ("take", 0, 0), ("take", None), ("take", "0"),
                    ("set", 0), ("set", 0, LINE, 0), ("set",), ("set", LINE, 0), ("set", None, LINE), ("set", 0, None),
                    ("loop",), ("loop", [], []), ("loop", None), ("loop", [None]), ("either",), ("either", []),
                    ("either", [], [], []), ("either", [], None), ("either", None, []), ("either", [], [0]),
                    ("call",), ("call", None), ("call", "1"), ("call", 1, 1), ("call", (1,)), ("Skip",), ("SKIP",),
                    ("",), ("skip ",), ("end",), ("body",), (None,), (0,), (True,), ("set", 0, ("0", 0, 0)),
                    ("set", 0, (None, 0, 0)), ("set", 0, (0, 0, (0,))), (["skip"],), (("skip",),), ([],),
                    None, 0, True, "skip", "", [], 10 ** 59, [[]]):
            self.each(False, [row])
            self.each(False, [SKIP, row, SKIP])

    def test_things_that_are_no_such_tuple(self):
        for thing in JUNK + [(1, [[]], 0), ([[]], 1), (1,), (1, [[]], []), (1, None), (1, 0), (1, True), (1, "body"),
                             (1, []), (1, [None]), (1, [0]), (1, ["skip"]), (1, [[], None]), (1, [[], (), []]),
                             ((1, [[]]),), [(1, [[]])], "(1, [[]])", (None, [[]]), ((), []), ([], ())]:
            self.hold(False, thing)

    def test_great_things(self):
        thing = ()
        for k in range(29):
            thing = (thing,) if k % 2 else [thing]
        self.hold(False, thing)
        self.hold(False, (1, [thing]))
        self.hold(False, [SKIP] * 999)
        self.hold(False, (1, [[SKIP] * 490]))
        self.hold(False, (1, [deep(13, [])]))
        self.hold(False, (1, [deep(13, [None])]))
        self.hold(False, (6, [[("set", 0, (0,) * 900)]]))

    def test_six_and_seven_deep(self):
        for row in (SKIP, HALT, ("take", 0), ("loop", []), ("either", [], [])):
            for wrapped in range(8):
                self.hold(wrapped + 1 <= 6, (1, [deep(wrapped, [row])]))
                self.hold(wrapped + 1 <= 6, (1, [[], deep(wrapped, [SKIP, row])]))
                self.hold(wrapped + 1 <= 6, (1, [deep_by_eithers(wrapped, [row], 0)]))
                self.hold(wrapped + 1 <= 6, (1, [deep_by_eithers(wrapped, [row], 1)]))
        self.hold(True, (0, [deep(6, [])]))
        self.hold(False, (0, [deep(7, [])]))

    def test_deep_through_calls(self):
        for outer in range(7):
            for inner in range(7):
                due = outer + 1 <= 6 and inner + 1 <= 6 and outer + inner + 1 <= 6
                self.hold(due, (0, [deep(outer, [("call", 1)]), deep(inner, [SKIP])]))
                self.hold(due, (0, [[], deep(outer, [SKIP, ("call", 3)]), [], deep(inner, [SKIP])]))
        self.hold(True, (0, [deep(2, [("call", 1)]), deep(2, [("call", 2)]), deep(1, [SKIP])]))
        self.hold(True, (0, [deep(2, [("call", 1)]), deep(2, [("call", 2)]), deep(1, [("call", 3)]), []]))
        self.hold(False, (0, [deep(2, [("call", 1)]), deep(2, [("call", 2)]), deep(2, [SKIP])]))
        self.hold(False, (0, [deep(2, [("call", 1)]), deep(2, [("call", 2)]), deep(1, [("call", 3)]), deep(1, [SKIP])]))

    def test_a_call_of_an_empty_body_is_a_row(self):
        self.hold(True, (0, [deep(5, [("call", 1)]), []]))
        self.hold(False, (0, [deep(6, [("call", 1)]), []]))

    def test_a_body_that_nobody_calls_is_bound_too(self):
        self.hold(True, (0, [[], deep(5, [SKIP])]))
        self.hold(False, (0, [[], deep(6, [SKIP])]))
        self.hold(True, (0, [[], [], [SKIP] * 39]))
        self.hold(False, (0, [[], [], [SKIP] * 40]))
        self.hold(False, (0, [[], [], [], [SKIP] * 40]))
        self.hold(False, (0, [[], [("call", 2), ("call", 2)], [SKIP] * 20]))

    def test_forty_and_forty_one_places(self):
        for row in (SKIP, HALT, ("take", 0), ("set", 0, (5, 6)), ("loop", []), ("either", [], [])):
            self.hold(True, (1, [[row] * 39]))
            self.hold(False, (1, [[row] * 40]))
        self.hold(True, (1, [[("loop", [SKIP] * 38)]]))
        self.hold(False, (1, [[("loop", [SKIP] * 39)]]))
        self.hold(True, (1, [[("either", [SKIP] * 19, [HALT] * 19)]]))
        self.hold(False, (1, [[("either", [SKIP] * 19, [HALT] * 20)]]))
        self.hold(False, (1, [[("either", [SKIP] * 39, [])]]))
        self.hold(False, (1, [[("either", [], [SKIP] * 39)]]))
        self.hold(True, (1, [[("loop", [("either", [("loop", [SKIP])], [])])] * 9 + [SKIP] * 3]))
        self.hold(False, (1, [[("loop", [("either", [("loop", [SKIP])], [])])] * 9 + [SKIP] * 4]))

    def test_places_through_calls(self):
        self.hold(True, (0, [[("call", 1)], [SKIP] * 39]))
        self.hold(False, (0, [[("call", 1), SKIP], [SKIP] * 39]))
        self.hold(True, (0, [[("call", 1)] * 3, [SKIP] * 13]))
        self.hold(False, (0, [[("call", 1)] * 4, [SKIP] * 10]))
        self.hold(True, (0, [[("call", 1)] * 3 + [SKIP] * 3, [("call", 2)] * 2, [("call", 3), SKIP], [SKIP] * 5]))
        self.hold(False, (0, [[("call", 1)] * 3 + [SKIP] * 4, [("call", 2)] * 2, [("call", 3), SKIP], [SKIP] * 5]))
        self.hold(True, (0, [[("call", 1)] * 200, []]))
        self.hold(True, (0, [[("loop", [("call", 1)])] * 13, [SKIP] * 2]))
        self.hold(False, (0, [[("loop", [("call", 1)])] * 13 + [SKIP], [SKIP] * 2]))
        self.hold(False, (0, [[("call", 1)] * 9, [("call", 2)] * 9, [("call", 3)] * 9, [SKIP] * 9]))


def drawn_rows(draw, many, own, count, deep_left, size):
    rows = []
    for k in range(draw.randint(0, size)):
        name = draw.choice(("set", "take", "skip", "halt", "either", "loop", "call", "call"))
        if name == "set" and many:
            line = tuple(draw.choice((0, 1, -999999, 999999)) for place in range(many + 1))
            rows.append(("set", draw.randrange(many), line))
        elif name == "take" and many:
            rows.append(("take", draw.randrange(many)))
        elif name == "either" and deep_left:
            rows.append(("either", drawn_rows(draw, many, own, count, deep_left - 1, size),
                         drawn_rows(draw, many, own, count, deep_left - 1, size)))
        elif name == "loop" and deep_left:
            rows.append(("loop", drawn_rows(draw, many, own, count, deep_left - 1, size)))
        elif name == "call" and own + 1 < count:
            rows.append(("call", draw.randrange(own + 1, count)))
        else:
            rows.append((draw.choice(("skip", "halt")),))
    return rows


def drawn_program(draw):
    many, count = draw.randint(0, 6), draw.randint(1, 4)
    deep_left, size = draw.randint(0, 7), draw.randint(1, 6)
    return (many, [drawn_rows(draw, many, own, count, deep_left, size) for own in range(count)])


def spoiled(draw, thing, chance):
    """The thing, with a part of it here or there made another one."""
    if draw.random() < chance:
        return draw.choice(JUNK)
    if isinstance(thing, (list, tuple)):
        parts = [spoiled(draw, part, chance) for part in thing]
        if draw.random() < chance and parts:
            parts.pop(draw.randrange(len(parts)))
        if draw.random() < chance / 4:
            return parts if isinstance(thing, tuple) else tuple(parts)
        return parts if isinstance(thing, list) else tuple(parts)
    return thing


class DrawnThings(unittest.TestCase):
    def test_drawn_programs(self):
        draw = random.Random(30)
        found = {True: 0, False: 0}
        for again in range(3000):
            thing = drawn_program(draw)
            due = is_a_program(thing)
            self.assertIs(is_program(thing), due, thing)
            found[due] += 1
        self.assertGreater(min(found.values()), 200, found)

    def test_spoiled_programs(self):
        draw = random.Random(31)
        found = {True: 0, False: 0}
        for again in range(6000):
            thing = spoiled(draw, drawn_program(draw), draw.choice((0.01, 0.05)))
            due = is_a_program(thing)
            self.assertIs(is_program(thing), due, thing)
            found[due] += 1
        self.assertGreater(min(found.values()), 200, found)


class TakenAsItIsThen(unittest.TestCase):
    def test_what_is_done_afterwards_is_seen_when_asked_again(self):
        rows = [SKIP] * 39
        program = (0, [rows])
        self.assertIs(is_program(program), True)
        rows.append(SKIP)
        self.assertIs(is_program(program), False)
        rows.pop()
        self.assertIs(is_program(program), True)
        self.assertEqual(program, (0, [[SKIP] * 39]))


if __name__ == "__main__":
    unittest.main()
