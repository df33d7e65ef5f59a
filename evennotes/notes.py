"""What always holds at each place, and a run for what doesn't (points 12, 13 and 14)."""

from evennotes.books import run_where, searched
from evennotes.echelons import made_of, noughts, noughts_of, worth
from evennotes.layouts import laid
from evennotes.runs import stand_behind


def comings(program):
    return by_notes(program)[0]


def notes(program):
    kept = by_notes(program)[2]
    return [kept.get(place) for place in range(laid(program)[0])]


def said(program, place, line):
    found = by_notes(program)
    if place not in found[2]:
        return ("never",)
    made = made_of(found[2][place], line)
    if made is not None:
        return ("holds", made[0], made[1])
    return ("breaks", run_where(found[0], found[1], place, lambda stand: worth(stand, line) != 0))


def by_notes(program):
    return searched(program, noughts(program[0] + 1, []), stand_behind, fewer_notes)


# A stand that all notes are worth 0 with is made of those that are there.
def fewer_notes(lines, stand):
    left = noughts_of(lines, stand)
    if len(left) == len(lines):
        return None
    return left
