"""What always holds by a rest at each place, and a run for what doesn't (points 15, 16 and 17)."""

from evennotes.books import run_where, searched
from evennotes.echelons import worth
from evennotes.layouts import laid
from evennotes.runs import stand_behind
from evennotes.squares import ground, ground_with, table, whole_sum, within_rest


def comings_by(program, rest):
    return by_rest(program, rest)[0]


def tables(program, rest):
    kept = by_rest(program, rest)[2]
    return [table(kept[place], rest) if place in kept else None for place in range(laid(program)[0])]


def said_by(program, place, line, rest):
    found = by_rest(program, rest)
    if place not in found[2]:
        return ("never",)
    multiples = whole_sum(table(found[2][place], rest), line)
    if multiples is not None:
        return ("holds", multiples)
    return ("breaks", run_where(found[0], found[1], place, lambda stand: worth(stand, line) % rest != 0))


# The stands are kept within the rest: what they are worth by it stays, and they don't grow from move to move.
def by_rest(program, rest):
    return searched(
        program,
        ground(program[0] + 1, [], rest),
        lambda deed, number, stand: within_rest(stand_behind(deed, number, stand), rest),
        lambda square, stand: ground_with(square, stand, rest))
