"""What the tests hold the program against, written from the document by other ways than the program's own."""

from fractions import Fraction
from itertools import combinations, product
from math import gcd, prod


def is_whole(thing):
    return isinstance(thing, int) and not isinstance(thing, bool)


# ---- lines

def is_line(thing, long):
    return isinstance(thing, tuple) and len(thing) == long and all(is_whole(number) for number in thing)


def added(one, other):
    return tuple(a + b for a, b in zip(one, other))


def scaled(many, line):
    return tuple(many * number for number in line)


def sum_of(long, multiples, lines):
    told = (0,) * long
    for many, line in zip(multiples, lines):
        told = added(told, scaled(many, line))
    return told


def head(line):
    return [place for place, number in enumerate(line) if number][-1]


def rank(lines):
    rows = [[Fraction(number) for number in line] for line in lines]
    found = 0
    for place in range(len(rows[0]) if rows else 0):
        pick = next((k for k in range(found, len(rows)) if rows[k][place]), None)
        if pick is None:
            continue
        rows[found], rows[pick] = rows[pick], rows[found]
        for k in range(found + 1, len(rows)):
            many = rows[k][place] / rows[found][place]
            rows[k] = [a - many * b for a, b in zip(rows[k], rows[found])]
        found += 1
    return found


def why_not_settled(lines, long):
    if not isinstance(lines, list):
        return "no list"
    for line in lines:
        if not is_line(line, long):
            return f"no line: {line!r}"
        if not any(line):
            return "all noughts"
        if line[head(line)] <= 0:
            return f"not above 0 at the head: {line}"
        if gcd(*line) != 1:
            return f"a number above 1 divides {line}"
        if any(other[head(line)] for other in lines if other is not line):
            return f"another line has no 0 at the head of {line}"
    heads = [head(line) for line in lines]
    if any(a >= b for a, b in zip(heads, heads[1:])):
        return "the heads don't rise"
    return None


# ---- squares

def why_no_square(square, long):
    if not isinstance(square, list) or len(square) != long:
        return "no list of as many lines"
    for k, line in enumerate(square):
        if not is_line(line, long):
            return f"no line: {line!r}"
        if any(line[k + 1:]):
            return f"no 0 behind {k}"
        if line[k] <= 0:
            return f"not above 0 at {k}"
        for j in range(k):
            if not 0 <= line[j] < square[j][j]:
                return f"line {k} is too great or below 0 at {j}"
    return None


def units(long, number):
    return [tuple(number if j == k else 0 for j in range(long)) for k in range(long)]


def sums_by_rest(long, lines, rest):
    """All lines with numbers from 0 to below the rest that are whole sums of the lines and the rests."""
    found = {(0,) * long}
    fresh = list(found)
    while fresh:
        line = fresh.pop()
        for other in lines:
            more = tuple((a + b) % rest for a, b in zip(line, other))
            if more not in found:
                found.add(more)
                fresh.append(more)
    return found


def lines_below(long, rest):
    return list(product(range(rest), repeat=long))


def determinant(rows):
    rows = [[Fraction(number) for number in row] for row in rows]
    told = Fraction(1)
    for k in range(len(rows)):
        pick = next((j for j in range(k, len(rows)) if rows[j][k]), None)
        if pick is None:
            return 0
        if pick != k:
            rows[k], rows[pick] = rows[pick], rows[k]
            told = -told
        told *= rows[k][k]
        for j in range(k + 1, len(rows)):
            many = rows[j][k] / rows[k][k]
            rows[j] = [a - many * b for a, b in zip(rows[j], rows[k])]
    return int(told)


def size_of_ground(long, lines, rest):
    """The product of a ground's numbers on the slope: the greatest divisor of all full minors."""
    return gcd(*[determinant(rows) for rows in combinations(list(lines) + units(long, rest), long)])


def size_of(square):
    return prod(line[k] for k, line in enumerate(square))


def is_whole_sum(square, line):
    left = list(line)
    for k in reversed(range(len(square))):
        many = Fraction(left[k], square[k][k])
        if many.denominator != 1:
            return False
        left = [a - int(many) * b for a, b in zip(left, square[k])]
    return not any(left)


# ---- programs

def laid_count(bodies, rows, deep, depths):
    """How many places the rows make, laid out row by row as point 10 tells, and how deep each row is."""
    count = 0
    for row in rows:
        depths.append(deep)
        if row[0] == "call":
            count += laid_count(bodies, bodies[row[1]], deep, depths)
        elif row[0] == "either":
            count += laid_count(bodies, row[1], deep + 1, depths)
            count += laid_count(bodies, row[2], deep + 1, depths)
            count += 1
        elif row[0] == "loop":
            count += 1
            count += laid_count(bodies, row[1], deep + 1, depths)
        else:
            count += 1
    return count


class NoProgram(Exception):
    pass


def ask(truth):
    if not truth:
        raise NoProgram()


def ask_rows(many, bodies, own, rows):
    ask(isinstance(rows, list))
    for row in rows:
        ask(isinstance(row, tuple) and row and isinstance(row[0], str))
        name, parts = row[0], row[1:]
        ask(len(parts) == {"set": 2, "take": 1, "skip": 0, "either": 2, "loop": 1, "call": 1, "halt": 0}.get(name))
        if name in ("set", "take"):
            ask(is_whole(parts[0]) and parts[0] in range(many))
        if name == "set":
            ask(is_line(parts[1], many + 1))
            ask(all(len(str(abs(number))) <= 6 for number in parts[1]))
        if name == "call":
            ask(is_whole(parts[0]) and parts[0] in range(own + 1, len(bodies)))
        if name in ("either", "loop"):
            for part in parts:
                ask_rows(many, bodies, own, part)


def is_a_program(thing):
    try:
        ask(isinstance(thing, tuple) and len(thing) == 2)
        many, bodies = thing
        ask(is_whole(many) and many in range(7))
        ask(isinstance(bodies, list) and len(bodies) in (1, 2, 3, 4))
        for own, body in enumerate(bodies):
            ask_rows(many, bodies, own, body)
        for body in bodies:
            depths = [0]
            ask(1 + laid_count(bodies, body, 1, depths) <= 40)
            ask(max(depths) <= 6)
    except NoProgram:
        return False
    return True
