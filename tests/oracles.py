"""What the tests hold the program against, written from the document by other ways than the program's own."""

import re
from ast import literal_eval
from fractions import Fraction
from itertools import combinations, product
from math import gcd, prod


def is_whole(thing):
    return isinstance(thing, int) and not isinstance(thing, bool)


def change_lists(told):
    """Changes each list that was told, also those within others."""
    for part in told:
        if isinstance(part, (list, tuple)):
            change_lists(part)
    if isinstance(told, list):
        told[:1] = ["other", "more"]


# ---- lines

def is_line(thing, long):
    return isinstance(thing, tuple) and len(thing) == long and all(is_whole(number) for number in thing)


def added(one, other):
    return tuple(a + b for a, b in zip(one, other))


def scaled(many, line):
    return tuple(many * number for number in line)


def sum_of(long, multiples, lines):
    told = (0,) * long
    for many, line in zip(multiples, lines):
        told = added(told, scaled(many, line))
    return told


def head(line):
    return [place for place, number in enumerate(line) if number][-1]


def rank(lines):
    rows = [[Fraction(number) for number in line] for line in lines]
    found = 0
    for place in range(len(rows[0]) if rows else 0):
        pick = next((k for k in range(found, len(rows)) if rows[k][place]), None)
        if pick is None:
            continue
        rows[found], rows[pick] = rows[pick], rows[found]
        for k in range(found + 1, len(rows)):
            many = rows[k][place] / rows[found][place]
            rows[k] = [a - many * b for a, b in zip(rows[k], rows[found])]
        found += 1
    return found


def why_not_settled(lines, long):
    if not isinstance(lines, list):
        return "no list"
    for line in lines:
        if not is_line(line, long):
            return f"no line: {line!r}"
        if not any(line):
            return "all noughts"
        if line[head(line)] <= 0:
            return f"not above 0 at the head: {line}"
        if gcd(*line) != 1:
            return f"a number above 1 divides {line}"
        if any(other[head(line)] for other in lines if other is not line):
            return f"another line has no 0 at the head of {line}"
    heads = [head(line) for line in lines]
    if any(a >= b for a, b in zip(heads, heads[1:])):
        return "the heads don't rise"
    return None


# ---- squares

def why_no_square(square, long):
    if not isinstance(square, list) or len(square) != long:
        return "no list of as many lines"
    for k, line in enumerate(square):
        if not is_line(line, long):
            return f"no line: {line!r}"
        if any(line[k + 1:]):
            return f"no 0 behind {k}"
        if line[k] <= 0:
            return f"not above 0 at {k}"
        for j in range(k):
            if not 0 <= line[j] < square[j][j]:
                return f"line {k} is too great or below 0 at {j}"
    return None


def units(long, number):
    return [tuple(number if j == k else 0 for j in range(long)) for k in range(long)]


def sums_by_rest(long, lines, rest):
    """All lines with numbers from 0 to below the rest that are whole sums of the lines and the rests."""
    found = {(0,) * long}
    fresh = list(found)
    while fresh:
        line = fresh.pop()
        for other in lines:
            more = tuple((a + b) % rest for a, b in zip(line, other))
            if more not in found:
                found.add(more)
                fresh.append(more)
    return found


def lines_below(long, rest):
    return list(product(range(rest), repeat=long))


def determinant(rows):
    rows = [[Fraction(number) for number in row] for row in rows]
    told = Fraction(1)
    for k in range(len(rows)):
        pick = next((j for j in range(k, len(rows)) if rows[j][k]), None)
        if pick is None:
            return 0
        if pick != k:
            rows[k], rows[pick] = rows[pick], rows[k]
            told = -told
        told *= rows[k][k]
        for j in range(k + 1, len(rows)):
            many = rows[j][k] / rows[k][k]
            rows[j] = [a - many * b for a, b in zip(rows[j], rows[k])]
    return int(told)


def size_of_ground(long, lines, rest):
    """The product of a ground's numbers on the slope: the greatest divisor of all full minors."""
    return gcd(*[determinant(rows) for rows in combinations(list(lines) + units(long, rest), long)])


def size_of(square):
    return prod(line[k] for k, line in enumerate(square))


def is_whole_sum(square, line):
    left = list(line)
    for k in reversed(range(len(square))):
        many = Fraction(left[k], square[k][k])
        if many.denominator != 1:
            return False
        left = [a - int(many) * b for a, b in zip(left, square[k])]
    return not any(left)


# ---- programs

def laid_count(bodies, rows, deep, depths):
    """How many places the rows make, laid out row by row as point 10 tells, and how deep each row is."""
    count = 0
    for row in rows:
        depths.append(deep)
        if row[0] == "call":
            count += laid_count(bodies, bodies[row[1]], deep, depths)
        elif row[0] == "either":
            count += laid_count(bodies, row[1], deep + 1, depths)
            count += laid_count(bodies, row[2], deep + 1, depths)
            count += 1
        elif row[0] == "loop":
            count += 1
            count += laid_count(bodies, row[1], deep + 1, depths)
        else:
            count += 1
    return count


class NoProgram(Exception):
    pass


def ask(truth):
    if not truth:
        raise NoProgram()


def ask_rows(many, bodies, own, rows):
    ask(isinstance(rows, list))
    for row in rows:
        ask(isinstance(row, tuple) and row and isinstance(row[0], str))
        name, parts = row[0], row[1:]
        ask(len(parts) == {"set": 2, "take": 1, "skip": 0, "either": 2, "loop": 1, "call": 1, "halt": 0}.get(name))
        if name in ("set", "take"):
            ask(is_whole(parts[0]) and parts[0] in range(many))
        if name == "set":
            ask(is_line(parts[1], many + 1))
            ask(all(len(str(abs(number))) <= 6 for number in parts[1]))
        if name == "call":
            ask(is_whole(parts[0]) and parts[0] in range(own + 1, len(bodies)))
        if name in ("either", "loop"):
            for part in parts:
                ask_rows(many, bodies, own, part)


def is_a_program(thing):
    try:
        ask(isinstance(thing, tuple) and len(thing) == 2)
        many, bodies = thing
        ask(is_whole(many) and many in range(7))
        ask(isinstance(bodies, list) and len(bodies) in (1, 2, 3, 4))
        for own, body in enumerate(bodies):
            ask_rows(many, bodies, own, body)
        for body in bodies:
            depths = [0]
            ask(1 + laid_count(bodies, body, 1, depths) <= 40)
            ask(max(depths) <= 6)
    except NoProgram:
        return False
    return True


# ---- layouts

def signs(bodies, rows):
    """The rows one after another, those of called bodies in the call's place, with signs where lists begin and end."""
    for row in rows:
        if row[0] == "call":
            yield from signs(bodies, bodies[row[1]])
        elif row[0] == "either":
            yield ("either",)
            yield from signs(bodies, row[1])
            yield ("or",)
            yield from signs(bodies, row[2])
            yield ("either ends",)
        elif row[0] == "loop":
            yield ("loop",)
            yield from signs(bodies, row[1])
            yield ("loop ends",)
        else:
            yield row


def laid_by_signs(program):
    """The layout as point 10 tells it, made in one walk over the signs."""
    count, steps, place, open_places = 1, [], 0, []
    for row in signs(program[1], program[1][0]):
        if row[0] == "either":
            open_places.append(place)
            continue
        if row[0] == "or":
            place, open_places[-1] = open_places[-1], place
            continue
        if row[0] == "loop ends":
            steps.append((place, open_places[-1], ("skip",)))
            place = open_places.pop()
            continue
        new, count = count, count + 1
        if row[0] == "either ends":
            steps.append((open_places.pop(), new, ("skip",)))
            steps.append((place, new, ("skip",)))
        elif row[0] == "loop":
            steps.append((place, new, ("skip",)))
            open_places.append(new)
        elif row[0] != "halt":
            steps.append((place, new, row))
        place = new
    return (count, steps, place)


def places_come_to(program):
    count, steps, end = laid_by_signs(program)
    found, fresh = {0}, [0]
    while fresh:
        place = fresh.pop()
        for start, to, deed in steps:
            if start == place and to not in found:
                found.add(to)
                fresh.append(to)
    return found


# ---- runs

def after(deed, number, stand):
    numbers = list(stand)
    if deed[0] == "take":
        numbers[1 + deed[1]] = number
    if deed[0] == "set":
        numbers[1 + deed[1]] = sum(deed[2][k] * stand[k] for k in range(len(stand)))
    return tuple(numbers)


def walked(program, moves):
    """The places and stands along the moves, or None where they are no run."""
    count, steps, end = laid_by_signs(program)
    told = [(0, tuple([1] + [0] * program[0]))]
    for step, number in moves:
        place, stand = told[-1]
        if step not in range(len(steps)) or steps[step][0] != place:
            return None
        deed = steps[step][2]
        if is_whole(number) != (deed[0] == "take"):
            return None
        told.append((steps[step][1], after(deed, number, stand)))
    return told


def why_no_told_run(program, moves):
    """Told runs have 0 or 1 at takes."""
    if not isinstance(moves, list) or not all(isinstance(move, tuple) and len(move) == 2 for move in moves):
        return "no list of moves"
    if not all(is_whole(step) and (number is None or is_whole(number) and number in (0, 1)) for step, number in moves):
        return "another number than 0 or 1"
    if walked(program, moves) is None:
        return "no run"
    return None


# ---- books

def why_no_book(program, book):
    if not isinstance(book, list) or not book or book[0] != (0, None, None):
        return "no list with the first tuple"
    steps = laid_by_signs(program)[1]
    for number, coming in enumerate(book[1:], 1):
        if not isinstance(coming, tuple) or len(coming) != 3 or not isinstance(coming[2], tuple):
            return f"no tuple: {coming!r}"
        place, back, move = coming
        if not is_whole(place) or not is_whole(back) or not 0 <= back < number:
            return f"no earlier tuple: {coming!r}"
        if len(move) != 2 or not is_whole(move[0]) or not 0 <= move[0] < len(steps):
            return f"no move: {coming!r}"
        start, to, deed = steps[move[0]]
        if start != book[back][0] or to != place:
            return f"the move doesn't lead there: {coming!r}"
        if deed[0] == "take":
            if not is_whole(move[1]) or move[1] not in (0, 1):
                return f"neither 0 nor 1 is taken: {coming!r}"
        elif move[1] is not None:
            return f"nothing is taken there: {coming!r}"
    return None


def stands_by_place(program, book):
    """The stands of a book's tuples, in their order, each reckoned from the one that it goes back to."""
    count, steps, end = laid_by_signs(program)
    stands = [(1,) + (0,) * program[0]]
    for place, back, (step, number) in book[1:]:
        stands.append(after(steps[step][2], number, stands[back]))
    told = [[] for place in range(count)]
    for coming, stand in zip(book, stands):
        told[coming[0]].append(stand)
    return told


# ---- what holds

def product_sum(one, other):
    return sum(a * b for a, b in zip(one, other))


def ahead(line, deed):
    """The line whose worth ahead of the deed is the line's worth behind it, less the number taken so many times."""
    if deed[0] == "skip":
        return line, 0
    box = 1 + deed[1]
    cleared = tuple(0 if k == box else number for k, number in enumerate(line))
    if deed[0] == "take":
        return cleared, line[box]
    return added(cleared, scaled(line[box], deed[2])), 0


def is_made_of(lines, line):
    return rank(lines + [line]) == rank(lines)


def why_not_kept(program, told, is_among, is_nought):
    """
    What is told to hold at each place does so at each coming: it holds at first, and by each step it comes of what
    holds where the step begins, whatever is taken. is_among(lines, line) is asked of the lines told at a place and
    another one; is_nought(number) tells which worth is none.
    """
    count, steps, end = laid_by_signs(program)
    if not isinstance(told, list) or len(told) != count:
        return "no list with something for each place"
    come = places_come_to(program)
    if {place for place in range(count) if told[place] is not None} != come:
        return "told of other places than those to which a run comes"
    if not all(is_nought(line[0]) for line in told[0]):
        return "not so at first"
    for start, to, deed in steps:
        if start not in come:
            continue
        for number, line in enumerate(told[to]):
            line_ahead, times_taken = ahead(line, deed)
            if not is_nought(times_taken):
                return f"line {number} at {to} hangs on what is taken"
            if not is_among(told[start], line_ahead):
                return f"line {number} at {to} doesn't come of what holds at {start}"
    return None


def all_stands_by_rest(program, rest):
    """By each place all stands at its comings, their numbers from 0 to below the rest."""
    count, steps, end = laid_by_signs(program)
    found = [set() for place in range(count)]
    fresh = [(0, (1,) + (0,) * program[0])]
    found[0].add(fresh[0][1])
    while fresh:
        place, stand = fresh.pop()
        for start, to, deed in steps:
            if start != place:
                continue
            for number in range(rest) if deed[0] == "take" else (None,):
                new = tuple(each % rest for each in after(deed, number, stand))
                if new not in found[to]:
                    found[to].add(new)
                    fresh.append((to, new))
    return found


# ---- two programs side by side

def flat(rows):
    """The rows one after another with signs where lists begin and end, calls as they are."""
    for row in rows:
        lists = [part for part in row if isinstance(part, list)]
        if not lists:
            yield row
            continue
        yield (row[0],)
        for number, part in enumerate(lists):
            if number:
                yield ("or",)
            yield from flat(part)
        yield (row[0] + " ends",)


def shape(program):
    return [[row if row[0] == "call" else row[:1] for row in flat(body)] for body in program[1]]


def joined_signs(one, other):
    """By each body the signs of the joined program, made of those of the two."""
    many, more = one[0], other[0]
    told = []
    for rows, others in zip(one[1], other[1]):
        signs_told = []
        for row, like in zip(flat(rows), flat(others)):
            if row[0] == "set":
                signs_told.append(("set", row[1], row[2] + (0,) * more))
                signs_told.append(("set", many + like[1], (like[2][0],) + (0,) * many + like[2][1:]))
            elif row[0] == "take":
                signs_told.append(row)
                signs_told.append(("set", many + like[1], units(many + more + 1, 1)[row[1] + 1]))
            else:
                signs_told.append(row)
        told.append(signs_told)
    return told


def joined_places(one, other):
    """The most places that a body of the joined program has."""
    counts = []
    for body in one[1]:
        pairs = sum(row[0] in ("set", "take") for row in signs(one[1], body))
        counts.append(1 + laid_count(one[1], body, 1, []) + pairs)
    return max(counts)


def both_walked(one, other, moves):
    """The place behind like runs, and the stand of both; None where they are no runs of both."""
    first, second = walked(one, moves), walked(other, moves)
    if first is None or second is None or [each[0] for each in first] != [each[0] for each in second]:
        return None
    return first[-1][0], first[-1][1] + second[-1][1][1:]


def stands_of_both(one, other):
    """By each place free stands of both, of which all stands of both behind like runs that come there are made."""
    count, steps, end = laid_by_signs(one)
    likes = laid_by_signs(other)[1]
    found = [[] for place in range(count)]
    fresh = [(0, (1,) + (0,) * one[0], (1,) + (0,) * other[0])]
    while fresh:
        place, stand, like = fresh.pop()
        whole = stand + like[1:]
        if is_made_of(found[place], whole):
            continue
        found[place].append(whole)
        for (start, to, deed), (other_start, other_to, other_deed) in zip(steps, likes):
            if start == place:
                for number in (0, 1) if deed[0] == "take" else (None,):
                    fresh.append((to, after(deed, number, stand), after(other_deed, number, like)))
    return found


# ---- a box left out

def fixed_by_parts(lines, box):
    """Of the lines that hold at a place the line whose worth the box is, or None, reckoned with parts of numbers."""
    if lines is None:
        return None
    order = [place for place in range(len(lines[0]) if lines else 0) if place != box + 1] + [box + 1]
    rows = [[Fraction(line[place]) for place in order] for line in lines]
    done = []
    for place in reversed(range(len(order))):
        pick = next((row for row in rows if row[place]), None)
        if pick is None:
            continue
        rows = [row for row in rows if row is not pick]
        pick = [number / pick[place] for number in pick]
        rows = [[a - row[place] * b for a, b in zip(row, pick)] for row in rows]
        done = [[a - row[place] * b for a, b in zip(row, pick)] for row in done] + [pick]
    tops = [row for row in done if row[-1]]
    if not tops or any(number.denominator != 1 for number in tops[0]):
        return None
    told = [0] * len(order)
    for place, number in zip(order[:-1], tops[0]):
        told[place] = -int(number)
    return tuple(told)


def reads_box(deed, box):
    return deed[0] == "set" and deed[1] != box and deed[2][box + 1] != 0


def place_of_need(program, told, box):
    """The place of Needed, or None; told are the notes of each place."""
    return min((start for start, to, deed in laid_by_signs(program)[1] if reads_box(deed, box)
                and told[start] is not None and fixed_by_parts(told[start], box) is None), default=None)


def deeds_without(program, told, box):
    """The deeds of the steps of the program without the box."""
    def cut(line):
        return tuple(number for place, number in enumerate(line) if place != box + 1)

    deeds = []
    for start, to, deed in laid_by_signs(program)[1]:
        if deed[0] == "skip" or deed[1] == box:
            deeds.append(("skip",))
            continue
        line = deed[2] if deed[0] == "set" else None
        if reads_box(deed, box) and told[start] is not None:
            line = added(line, scaled(line[box + 1], fixed_by_parts(told[start], box)))
        deeds.append((deed[0], deed[1] - (deed[1] > box)) + (() if line is None else (cut(line),)))
    return deeds


def signs_without(program, deeds, box):
    """The signs of the one body of the program without the box."""
    new = iter([deed for deed, step in zip(deeds, laid_by_signs(program)[1]) if step[2][0] != "skip"])
    return [next(new) if row[0] in ("set", "take") else row for row in signs(program[1], program[1][0])]


# ---- texts

def text_by_signs(program):
    words = {"either ends": "end", "loop ends": "end"}
    rows = ["boxes " + str(program[0])]
    for body in program[1]:
        rows.append("body")
        for row in flat(body):
            numbers = row[1:] if row[0] != "set" else (row[1],) + row[2]
            rows.append(" ".join([words.get(row[0], row[0])] + [str(number) for number in numbers]))
    return "; ".join(rows)


NUMBER = "(?:0|-?[1-9][0-9]{0,59})"
LITERALS = (
    ("body", "],["), ("either", "('either',["), ("or", "],["), ("end", "]),"), ("loop", "('loop',["),
    ("skip", "('skip',),"), ("halt", "('halt',),"))


def program_by_literal(text):
    """The program that the text tells, or None: the rows are put into Python's own words, and these are read."""
    if not isinstance(text, str):
        return None
    rows = text.split("; ")
    if not re.fullmatch("boxes " + NUMBER, rows[0]) or rows[1:2] != ["body"]:
        return None
    told = ["(" + rows[0][6:] + ",[["]
    depth = 0
    for row in rows[2:]:
        if row == "body" and depth or row == "or" and not depth:
            return None
        depth += (row in ("either", "loop")) - (row == "end")
        if row in dict(LITERALS):
            told.append(dict(LITERALS)[row])
        elif re.fullmatch("(?:take|call) " + NUMBER, row):
            told.append("('" + row[:4] + "'," + row[5:] + "),")
        elif re.fullmatch("set " + NUMBER + "(?: " + NUMBER + ")+", row):
            numbers = row.split(" ")[1:]
            told.append("('set'," + numbers[0] + ",(" + ",".join(numbers[1:]) + ",)),")
        else:
            return None
        if not 0 <= depth <= 50:
            return None
    try:
        program = literal_eval("".join(told) + "]])")
    except SyntaxError:
        return None
    return program if is_a_program(program) else None
