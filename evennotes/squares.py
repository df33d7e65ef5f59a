"""Squares by a rest: grounds, tables, and whole sums of them (point 7)."""

from evennotes.echelons import combined, worth


def ground(long, lines, rest):
    square = [alone(long, place, rest) for place in range(long)]
    for line in lines:
        square = taken_in(square, line, rest)
    return lowered(square)


def table(square, rest):
    long = len(square)
    return ground(long, [answer_to(square, place, rest) for place in range(long)], rest)


def whole_sum(square, line):
    multiples = [0] * len(square)
    left = line
    for place in range(len(square) - 1, -1, -1):
        many = left[place] // square[place][place]
        left = combined(1, left, -many, square[place])
        if left[place] != 0:
            return None
        multiples[place] = many
    return multiples


def alone(long, place, number):
    numbers = [0] * long
    numbers[place] = number
    return tuple(numbers)


def within_rest(line, rest):
    return tuple([number % rest for number in line])


# The rest at one place and 0 else is a whole sum of the rows at and ahead of that place, which are
# untouched while a later one is worked on: so numbers may be brought below the rest all the way.
def taken_in(square, line, rest):
    rows = list(square)
    left = within_rest(line, rest)
    for place in range(len(rows) - 1, -1, -1):
        while left[place] != 0:
            many = rows[place][place] // left[place]
            lesser = within_rest(combined(1, rows[place], -many, left), rest)
            rows[place] = left
            left = lesser
    return rows


# The ground with one line more, or None where this is a whole sum of the ground already.
def ground_with(square, line, rest):
    if whole_sum(square, line) is not None:
        return None
    return lowered(taken_in(square, line, rest))


def lowered(square):
    rows = []
    for line in square:
        rows.append(lowered_by(rows, line))
    return rows


# Taking off a row changes the places ahead of its own, so the last row is taken off first.
def lowered_by(rows, line):
    left = line
    for place in range(len(rows) - 1, -1, -1):
        left = combined(1, left, -(left[place] // rows[place][place]), rows[place])
    return left


# The line that is worth the rest with the square's line at the place, and 0 with each other one: it is
# whole, as the square is a ground by the rest, and the lines of the table are the whole sums of these.
def answer_to(square, place, rest):
    due = alone(len(square), place, rest)
    numbers = [0] * len(square)
    for other in range(place, len(square)):
        numbers[other] = (due[other] - worth(square[other], numbers)) // square[other][other]
    return tuple(numbers)
