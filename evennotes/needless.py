"""A box that is the sum of others wherever it is read, and the program without it (points 21 and 22)."""

from evennotes.echelons import combined, settled
from evennotes.errors import Needed, NoBox, TooGreat
from evennotes.layouts import SKIP, laid, places_of_bodies
from evennotes.notes import notes
from evennotes.programs import MOST_IN_A_LINE, lists_in


def fixed(program, place, box):
    others = sum_of_others(notes(program)[place], box)
    if others is None:
        return None
    return others[:box + 1] + (0,) + others[box + 1:]


def without(program, box):
    if not 0 <= box < program[0]:
        raise NoBox("the program has no such box")
    steps = laid(program)[1]
    told = notes(program)
    refuse_if_needed(steps, told, box)
    deeds = [deed_without(step[2], box, told[step[0]]) for step in steps if step[2][0] != "skip"]
    if any([is_too_great(deed) for deed in deeds]):
        raise TooGreat("a line would have a number of more than six figures")
    bodies = program[1]
    return (program[0] - 1, [rows_with(bodies[0], bodies, places_of_bodies(bodies), deeds)])


# The numbers of the sum that the box is, one for each other place of a line, in order; None where the box is
# not fixed or no run comes. Only the last line of a settled list may have its head at the last place.
def sum_of_others(lines, box):
    if lines is None:
        return None
    last = settled([left_out(line, box) + (line[box + 1],) for line in lines])[-1:]
    if len(last) == 0 or last[0][-1] != 1:
        return None
    return tuple([-number for number in last[0][:-1]])


def left_out(line, box):
    return line[:box + 1] + line[box + 2:]


def reads(deed, box):
    return deed[0] == "set" and deed[1] != box and deed[2][box + 1] != 0


def refuse_if_needed(steps, told, box):
    places = []
    for start, to, deed in steps:
        if reads(deed, box) and told[start] is not None and sum_of_others(told[start], box) is None:
            places.append(start)
    if len(places) > 0:
        raise Needed(min(places))


# lines are the notes of the place from which the deed leads.
def deed_without(deed, box, lines):
    if deed[1] == box:
        return SKIP
    new_box = deed[1] - 1 if deed[1] > box else deed[1]
    if deed[0] == "take":
        return ("take", new_box)
    line = left_out(deed[2], box)
    if reads(deed, box) and lines is not None:
        line = combined(1, line, deed[2][box + 1], sum_of_others(lines, box))
    return ("set", new_box, line)


def is_too_great(deed):
    return deed[0] == "set" and max([abs(number) for number in deed[2]]) > MOST_IN_A_LINE


# deeds are those of the sets and takes yet to come, in the order in which they are laid out: each is taken off
# as its row comes. Bodies without places may call one another times and times over: they are passed over.
def rows_with(rows, bodies, laying, deeds):
    new = []
    for row in rows:
        if row[0] == "set" or row[0] == "take":
            new.append(deeds.pop(0))
        elif row[0] != "call":
            new.append((row[0],) + tuple([rows_with(part, bodies, laying, deeds) for part in lists_in(row)]))
        elif laying[row[1]] > 0:
            new.extend(rows_with(bodies[row[1]], bodies, laying, deeds))
    return new
