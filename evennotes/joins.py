"""Two programs of one shape, joined into one and run alike (points 18, 19 and 20)."""

from evennotes.errors import NotAlike, TooGreat
from evennotes.layouts import laid, places_of_bodies
from evennotes.notes import said
from evennotes.programs import MOST_BOXES, MOST_PLACES, lists_in


def one_shape(one, other):
    return all_alike(one[1], other[1], rows_alike)


def joined(one, other):
    many = one[0]
    more = other[0]
    if many + more > MOST_BOXES or not one_shape(one, other):
        raise NotAlike("the programs are not of one shape, or have more than six boxes together")
    bodies = [joined_rows(rows, others, many, more) for rows, others in zip(one[1], other[1])]
    # The begin is a place too.
    if max(places_of_bodies(bodies).values()) + 1 > MOST_PLACES:
        raise TooGreat("a body of the joined program has more than forty places")
    return (many + more, bodies)


def paired(one, other, line):
    both = joined(one, other)
    told = said(both, laid(both)[2], line)
    if told[0] == "breaks":
        return ("breaks", own_moves(one, told[1]))
    return (told[0],)


def all_alike(ones, others, alike):
    if len(ones) != len(others):
        return False
    return all([alike(one, other) for one, other in zip(ones, others)])


def rows_alike(rows, others):
    return all_alike(rows, others, row_alike)


def row_alike(row, other):
    if row[0] != other[0]:
        return False
    if row[0] == "call":
        return row[1] == other[1]
    return all_alike(lists_in(row), lists_in(other), rows_alike)


def joined_rows(rows, others, many, more):
    both = []
    for row, other in zip(rows, others):
        both.extend(joined_row(row, other, many, more))
    return both


def joined_row(row, other, many, more):
    if row[0] == "set":
        moved = other[2][:1] + (0,) * many + other[2][1:]
        return [("set", row[1], row[2] + (0,) * more), ("set", many + other[1], moved)]
    if row[0] == "take":
        return [row, ("set", many + other[1], box_alone(row[1], many + more))]
    if len(lists_in(row)) == 0:
        return [row]
    lists = [joined_rows(rows, others, many, more) for rows, others in zip(lists_in(row), lists_in(other))]
    return [(row[0],) + tuple(lists)]


def box_alone(box, many):
    return (0,) + tuple([1 if other == box else 0 for other in range(many)])


def own_moves(program, moves):
    own = own_steps(program)
    return [(own[move[0]], move[1]) for move in moves if own[move[0]] is not None]


# By each step of the joined program the step of each of the two, None for the second row of a pair: the rows
# are laid out in the same order, and only a set and a take have become two.
def own_steps(program):
    own = []
    for number, step in enumerate(laid(program)[1]):
        own.append(number)
        if step[2][0] != "skip":
            own.append(None)
    return own
