"""How a program is laid out: its places, its steps and its end (point 10)."""

from evennotes.programs import new_places

SKIP = ("skip",)


class Layout:
    def __init__(self, bodies):
        self.bodies = bodies
        self.laying = places_of_bodies(bodies)
        self.count = 1
        self.steps = []

    def new_place(self):
        self.count += 1
        return self.count - 1

    def add_step(self, start, to, deed):
        self.steps.append((start, to, deed))


def laid(program):
    layout = Layout(program[1])
    end = lay_rows(layout, program[1][0], 0)
    return (layout.count, layout.steps, end)


# Only later bodies are called: taken from the last one on, what a call lays out is known already.
def places_of_bodies(bodies):
    places = {}
    for number in range(len(bodies) - 1, -1, -1):
        places[number] = new_places(bodies[number], places)
    return places


def lay_rows(layout, rows, place):
    at = place
    for row in rows:
        at = lay_row(layout, row, at)
    return at


def lay_row(layout, row, place):
    kind = row[0]
    if kind == "either":
        return lay_either(layout, row, place)
    if kind == "loop":
        return lay_loop(layout, row, place)
    if kind == "call":
        return lay_call(layout, row, place)
    new = layout.new_place()
    if kind != "halt":
        layout.add_step(place, new, row)
    return new


def lay_either(layout, row, place):
    one = lay_rows(layout, row[1], place)
    other = lay_rows(layout, row[2], place)
    new = layout.new_place()
    layout.add_step(one, new, SKIP)
    layout.add_step(other, new, SKIP)
    return new


def lay_loop(layout, row, place):
    new = layout.new_place()
    layout.add_step(place, new, SKIP)
    layout.add_step(lay_rows(layout, row[1], new), new, SKIP)
    return new


# Bodies without places may call one another times and times over, so they are not walked through at all.
def lay_call(layout, row, place):
    if layout.laying[row[1]] == 0:
        return place
    return lay_rows(layout, layout.bodies[row[1]], place)
