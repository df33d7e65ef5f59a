"""Books of comings, by whatever is kept of the stands at each place (points 13 and 16)."""

from evennotes.layouts import laid
from evennotes.runs import first_stand, takes


# Told are the book, its tuples' stands, and by each place to which a run comes what is kept of its stands.
# behind(deed, number, stand) tells the next stand; grown(kept, stand) what is kept with one stand more, or
# None where this adds nothing; nothing is what is kept of no stands. From a stand that adds nothing there is
# no going on: it is a sum of others there, and each deed makes of a sum of stands the like sum of theirs.
def searched(program, nothing, behind, grown):
    first = first_stand(program)
    book = [(0, None, None)]
    stands = [first]
    kept = {0: grown(nothing, first)}
    ways = ways_by_place(program)
    back = 0
    while back < len(book):
        for move, to, deed in ways[book[back][0]]:
            stand = behind(deed, move[1], stands[back])
            more = grown(kept.get(to, nothing), stand)
            if more is not None:
                book.append((to, back, move))
                stands.append(stand)
                kept[to] = more
        back += 1
    return (book, stands, kept)


def ways_by_place(program):
    layout = laid(program)
    ways = [[] for place in range(layout[0])]
    for number, step in enumerate(layout[1]):
        for taken in tried(step[2]):
            ways[step[0]].append(((number, taken), step[1], step[2]))
    return ways


# The stand behind any number taken is a whole sum of those behind 0 and 1.
def tried(deed):
    if takes(deed):
        return (0, 1)
    return (None,)


def run_where(book, stands, place, breaks):
    for number, coming in enumerate(book):
        if coming[0] == place and breaks(stands[number]):
            return run_to(book, number)
    return None


def run_to(book, number):
    moves = []
    coming = book[number]
    while coming[1] is not None:
        moves.append(coming[2])
        coming = book[coming[1]]
    moves.reverse()
    return moves
