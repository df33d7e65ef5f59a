"""What is a program (points 8 and 9)."""

MOST_BOXES = 6
MOST_BODIES = 4
MOST_PLACES = 40
MOST_DEEP = 6
MOST_IN_A_LINE = 999999


def is_program(thing):
    if not has_parts(thing, 2):
        return False
    many = thing[0]
    bodies = thing[1]
    if not is_number(many, 0, MOST_BOXES) or not isinstance(bodies, list):
        return False
    if not 1 <= len(bodies) <= MOST_BODIES:
        return False
    for number, body in enumerate(bodies):
        if not are_rows(body, many, number + 1, len(bodies) - 1):
            return False
    return all_keep_bounds(bodies)


def has_parts(thing, long):
    return isinstance(thing, tuple) and len(thing) == long


def is_number(thing, least, most):
    return isinstance(thing, int) and not isinstance(thing, bool) and least <= thing <= most


# first and last are the bodies that may be called; there is none where the first is above the last.
def are_rows(thing, many, first, last):
    return isinstance(thing, list) and all([is_row(row, many, first, last) for row in thing])


def is_row(thing, many, first, last):
    if not isinstance(thing, tuple) or len(thing) == 0:
        return False
    kind = thing[0]
    if kind == "set":
        return has_parts(thing, 3) and is_number(thing[1], 0, many - 1) and is_set_line(thing[2], many)
    if kind == "take":
        return has_parts(thing, 2) and is_number(thing[1], 0, many - 1)
    if kind == "skip" or kind == "halt":
        return has_parts(thing, 1)
    if kind == "either":
        return has_parts(thing, 3) and all([are_rows(part, many, first, last) for part in thing[1:]])
    if kind == "loop":
        return has_parts(thing, 2) and are_rows(thing[1], many, first, last)
    if kind == "call":
        return has_parts(thing, 2) and is_number(thing[1], first, last)
    return False


def is_set_line(thing, many):
    if not has_parts(thing, many + 1):
        return False
    return all([is_number(number, -MOST_IN_A_LINE, MOST_IN_A_LINE) for number in thing])


# Only later bodies are called: taken from the last one on, what a call lays out is known already.
def all_keep_bounds(bodies):
    places = {}
    deep = {}
    for number in range(len(bodies) - 1, -1, -1):
        places[number] = new_places(bodies[number], places)
        deep[number] = depth(bodies[number], deep)
        # The begin is a place too.
        if places[number] + 1 > MOST_PLACES or deep[number] > MOST_DEEP:
            return False
    return True


def lists_in(row):
    return [part for part in row if isinstance(part, list)]


def new_places(rows, called):
    return sum([new_places_of_row(row, called) for row in rows])


# A call alone makes no place of its own; either makes one behind its lists, loop one ahead of its list.
def new_places_of_row(row, called):
    if row[0] == "call":
        return called[row[1]]
    return 1 + sum([new_places(rows, called) for rows in lists_in(row)])


def depth(rows, called):
    return max([depth_of_row(row, called) for row in rows], default=0)


# A call of an empty body is still a row itself.
def depth_of_row(row, called):
    if row[0] == "call":
        return max(1, called[row[1]])
    return 1 + max([depth(rows, called) for rows in lists_in(row)], default=0)
