"""Programs and runs that the tests draw; what is drawn hangs on the draw's seed alone."""

from oracles import is_a_program, laid_by_signs

SKIP = ("skip",)
HALT = ("halt",)
NINE_FIGURES = 999999999


def small_line(draw, many):
    return tuple(draw.choice((0, 0, 0, 1, 1, -1, 2, 3)) for place in range(many + 1))


def great_line(draw, many):
    return tuple(draw.choice((999999, -999999, draw.randint(-999999, 999999))) for place in range(many + 1))


def added_to(many, box, number):
    """The set by which the box gets so much more."""
    return ("set", box, (number,) + tuple(int(other == box) for other in range(many)))


def plain_row(draw, many, halts):
    if draw.random() < halts:
        return HALT
    name = draw.choice(("set", "set", "add", "add", "copy", "take", "skip"))
    if many == 0 or name == "skip":
        return SKIP
    box = draw.randrange(many)
    if name == "take":
        return ("take", box)
    if name == "add":
        return added_to(many, box, draw.choice((1, -1, 2, 6, 12)))
    if name == "copy":
        other = draw.randrange(many)
        return ("set", box, tuple(int(place == other + 1) for place in range(many + 1)))
    return ("set", box, small_line(draw, many))


def drawn_rows(draw, many, bodies_behind, deep_left, size, halts):
    rows = []
    for again in range(draw.randint(0, size)):
        name = draw.choice(("plain", "plain", "plain", "either", "loop", "call"))
        if name == "either" and deep_left:
            rows.append(("either", drawn_rows(draw, many, bodies_behind, deep_left - 1, size - 1, halts),
                         drawn_rows(draw, many, bodies_behind, deep_left - 1, size - 1, halts)))
        elif name == "loop" and deep_left:
            rows.append(("loop", drawn_rows(draw, many, bodies_behind, deep_left - 1, size - 1, halts)))
        elif name == "call" and bodies_behind:
            rows.append(("call", draw.choice(bodies_behind)))
        else:
            rows.append(plain_row(draw, many, halts))
    return rows


def drawn_program(draw, many=None, halts=0.05, size=5):
    """A program with few numbers in its lines, so that much holds in it."""
    while True:
        boxes = draw.randint(0, 6) if many is None else many
        count = draw.choice((1, 1, 2, 3, 4))
        program = (boxes, [drawn_rows(draw, boxes, list(range(own + 1, count)), draw.randint(0, 5), size, halts)
                           for own in range(count)])
        if is_a_program(program):
            return program


def great_program(draw, many=6):
    """Loops and choices of sets with lines whose numbers have six figures."""
    def sets(count):
        return [("set", draw.randrange(many), great_line(draw, many)) for again in range(count)]
    return (many, [sets(2) + [("loop", sets(3) + [("either", sets(2), sets(1))])] + sets(1)])


def deep(count, rows):
    """The rows, with so many loops around them."""
    for again in range(count):
        rows = [("loop", rows)]
    return rows


def drawn_run(draw, program, most, taken=(0, 1, -1, NINE_FIGURES, -NINE_FIGURES)):
    """A run of at most so many moves; shorter where nothing leads on."""
    count, steps, end = laid_by_signs(program)
    ways = [[number for number, step in enumerate(steps) if step[0] == place] for place in range(count)]
    moves, place = [], 0
    while len(moves) < most and ways[place]:
        step = draw.choice(ways[place])
        moves.append((step, draw.choice(taken) if steps[step][2][0] == "take" else None))
        place = steps[step][1]
    return moves


def moved_boxes(draw, rows, many):
    """The rows with other boxes and lines, of so many boxes."""
    told = []
    for row in rows:
        if row[0] == "set":
            told.append(("set", draw.randrange(many), small_line(draw, many)))
        elif row[0] == "take":
            told.append(("take", draw.randrange(many)))
        else:
            told.append(tuple(moved_boxes(draw, part, many) if isinstance(part, list) else part for part in row))
    return told


def like_program(draw, program, many):
    """A program of the same shape with so many boxes; these are none only where nothing is set or taken."""
    return (many, [moved_boxes(draw, body, many) for body in program[1]])


def with_spare_box(draw, program, spare):
    """The program with one box more, that is set to a sum of the others behind each change, and read at times."""
    many = program[0]
    least = tuple(draw.choice((0, 0, 1, -1, 2)) for place in range(many + 1))

    def put_in(line, number):
        return line[:spare + 1] + (number,) + line[spare + 1:]

    def moved(box):
        return box + (box >= spare)

    def rows_with(rows):
        told = []
        for row in rows:
            if row[0] == "set":
                often = draw.choice((0, 0, 1, -1, 3))
                line = tuple(a - often * b for a, b in zip(row[2], least)) if draw.random() < 0.5 else row[2]
                told.append(("set", moved(row[1]), put_in(line, often)))
            elif row[0] == "take":
                told.append(("take", moved(row[1])))
            else:
                told.append(tuple(rows_with(part) if isinstance(part, list) else part for part in row))
            if row[0] in ("set", "take") and draw.random() < 0.8:
                told.append(("set", spare, put_in(least, 0)))
        return told

    first = [("set", spare, put_in(least, 0))]
    return (many + 1, [first * (number == 0) + rows_with(body) for number, body in enumerate(program[1])])
