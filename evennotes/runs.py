"""Runs of a program, and the stands behind their moves (point 11)."""

from evennotes.echelons import worth
from evennotes.errors import NoRun
from evennotes.layouts import laid


def is_run(program, moves):
    return places_along(laid(program)[1], moves) is not None


def ran(program, moves):
    steps = laid(program)[1]
    places = places_along(steps, moves)
    if places is None:
        raise NoRun("these moves are no run of the program")
    stands = [first_stand(program)]
    for move in moves:
        stands.append(stand_behind(steps[move[0]][2], move[1], stands[-1]))
    return list(zip(places, stands))


def first_stand(program):
    return (1,) + (0,) * program[0]


def takes(deed):
    return deed[0] == "take"


# The number is what a take takes; the boxes stand behind the 1.
def stand_behind(deed, number, stand):
    if deed[0] == "skip":
        return stand
    place = deed[1] + 1
    new = number if takes(deed) else worth(deed[2], stand)
    return stand[:place] + (new,) + stand[place + 1:]


def places_along(steps, moves):
    places = [0]
    for move in moves:
        if not goes_on(steps, move, places[-1]):
            return None
        places.append(steps[move[0]][1])
    return places


def goes_on(steps, move, place):
    if not 0 <= move[0] < len(steps):
        return False
    step = steps[move[0]]
    return step[0] == place and takes(step[2]) == (move[1] is not None)
