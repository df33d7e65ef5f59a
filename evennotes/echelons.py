"""Lines of whole numbers, settled lists of lines, and what is made of them (points 4, 5, 6)."""


def worth(one, other):
    return sum([first * second for first, second in zip(one, other)])


def settled(lines):
    rows = []
    for line in lines:
        left = left_over(rows, line, least_times(rows, line))
        if any(left):
            rows = joined_by(rows, lowest(left))
    return rows


def made_of(lines, line):
    times = least_times(lines, line)
    if any(left_over(lines, line, times)):
        return None
    return (times, multiples_at_heads(lines, line, times))


def noughts(long, lines):
    rows = [tuple([1 if other == place else 0 for other in range(long)]) for place in range(long)]
    for line in lines:
        rows = noughts_of(rows, line)
    return rows


def head(line):
    return max([place for place, number in enumerate(line) if number != 0])


def common_divisor(one, other):
    greater = abs(one)
    lesser = abs(other)
    while lesser != 0:
        left = greater % lesser
        greater = lesser
        lesser = left
    return greater


def common_multiple(one, other):
    return one // common_divisor(one, other) * other


def combined(times, one, many, other):
    return tuple([times * first + many * second for first, second in zip(one, other)])


def lowest(line):
    divisor = 0
    for number in line:
        divisor = common_divisor(divisor, number)
    if line[head(line)] < 0:
        divisor = -divisor
    return tuple([number // divisor for number in line])


# At a head all other lines have 0, so the numbers there alone tell the multiples.
def least_times(rows, line):
    times = 1
    for row in rows:
        place = head(row)
        times = common_multiple(times, row[place] // common_divisor(row[place], line[place]))
    return times


def multiples_at_heads(rows, line, times):
    multiples = []
    for row in rows:
        place = head(row)
        multiples.append(times * line[place] // row[place])
    return multiples


def left_over(rows, line, times):
    left = tuple([times * number for number in line])
    for many, row in zip(multiples_at_heads(rows, line, times), rows):
        left = combined(1, left, -many, row)
    return left


# The new line has 0 at the heads of the rows, so taking it off a row leaves that row's head as it is.
def joined_by(rows, new):
    place = head(new)
    cleared = [row_without(row, new, place) for row in rows]
    return sorted(cleared + [new], key=head)


def row_without(row, new, place):
    if row[place] == 0:
        return row
    return lowest(combined(new[place], row, -row[place], new))


# Of a settled list, what is made of it and worth 0 with the line, settled. The first row that isn't worth 0
# is taken off those behind it and left out: its head lies ahead of theirs, and at theirs it has 0.
def noughts_of(rows, line):
    left = []
    first = None
    for row in rows:
        if worth(row, line) == 0:
            left.append(row)
        elif first is None:
            first = row
        else:
            left.append(lowest(combined(worth(first, line), row, -worth(row, line), first)))
    return left
