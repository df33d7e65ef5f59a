"""A desk that keeps programs by names, and answers rows with texts (point 24)."""

from evennotes.errors import NoName, NoNumber, NoRow
from evennotes.joins import joined, paired
from evennotes.layouts import laid
from evennotes.needless import without
from evennotes.notes import notes, said
from evennotes.rests import said_by, tables
from evennotes.runs import ran
from evennotes.texts import number_in, read, show

LETTERS = "abcdefghijklmnopqrstuvwxyz"
MOST_LETTERS = 8
LEAST_REST = 2
MOST_REST = 1000000


def new_name(word):
    if not 1 <= len(word) <= MOST_LETTERS or not all([sign in LETTERS for sign in word]):
        raise NoName("this is no name")
    return word


# What is no name is never kept, so that nothing stands by it either.
def program_by(programs, word):
    if word not in programs:
        raise NoName("no program stands by this name")
    return programs[word]


def number_by(word):
    number = number_in(word)
    if number is None:
        raise NoNumber("a whole number is not written so")
    return number


def number_from_nought(word):
    number = number_by(word)
    if number < 0:
        raise NoNumber("this number is below 0")
    return number


def place_by(program, word):
    place = number_from_nought(word)
    if place >= laid(program)[0]:
        raise NoNumber("the program has no such place")
    return place


def rest_by(word):
    rest = number_by(word)
    if not LEAST_REST <= rest <= MOST_REST:
        raise NoNumber("this is no rest")
    return rest


def line_by(many, words):
    if len(words) != many + 1:
        raise NoNumber("the line has too few or too many numbers")
    return tuple([number_by(word) for word in words])


def move_by(word):
    parts = word.partition("=")
    step = number_from_nought(parts[0])
    if parts[1] == "":
        return (step, None)
    return (step, number_by(parts[2]))


def numbers_text(numbers):
    return " ".join([str(number) for number in numbers])


def lines_text(lines):
    if lines is None:
        return "never"
    if len(lines) == 0:
        return "none"
    return "; ".join([numbers_text(line) for line in lines])


def move_text(move):
    step = move[0]
    number = move[1]
    if number is None:
        return str(step)
    return f"{step}={number}"


def said_text(told):
    if told[0] != "breaks":
        return told[0]
    return " ".join(["breaks"] + [move_text(move) for move in told[1]])


def answer_program(programs, words):
    name = new_name(words[0])
    programs[name] = read(" ".join(words[1:]))
    return "ok"


def answer_drop(programs, words):
    program_by(programs, words[0])
    programs.pop(words[0])
    return "ok"


def answer_show(programs, words):
    return show(program_by(programs, words[0]))


def answer_places(programs, words):
    layout = laid(program_by(programs, words[0]))
    return numbers_text([layout[0], layout[2]])


def answer_notes(programs, words):
    program = program_by(programs, words[0])
    place = place_by(program, words[1])
    return lines_text(notes(program)[place])


def answer_table(programs, words):
    program = program_by(programs, words[0])
    place = place_by(program, words[1])
    rest = rest_by(words[2])
    return lines_text(tables(program, rest)[place])


def answer_said(programs, words):
    program = program_by(programs, words[0])
    place = place_by(program, words[1])
    line = line_by(program[0], words[2:])
    return said_text(said(program, place, line))


def answer_saidby(programs, words):
    program = program_by(programs, words[0])
    place = place_by(program, words[1])
    rest = rest_by(words[2])
    line = line_by(program[0], words[3:])
    return said_text(said_by(program, place, line, rest))


def answer_ran(programs, words):
    program = program_by(programs, words[0])
    moves = [move_by(word) for word in words[1:]]
    last = ran(program, moves)[-1]
    return numbers_text((last[0],) + last[1])


def answer_join(programs, words):
    name = new_name(words[0])
    one = program_by(programs, words[1])
    other = program_by(programs, words[2])
    programs[name] = joined(one, other)
    return "ok"


def answer_without(programs, words):
    name = new_name(words[0])
    program = program_by(programs, words[1])
    box = number_from_nought(words[2])
    programs[name] = without(program, box)
    return "ok"


def answer_paired(programs, words):
    one = program_by(programs, words[0])
    other = program_by(programs, words[1])
    line = line_by(one[0] + other[0], words[2:])
    return said_text(paired(one, other, line))


# By the first word of a row how many words follow it at least and at most, None where there is no most.
FORMS = {
    "program": (2, None),
    "drop": (1, 1),
    "show": (1, 1),
    "places": (1, 1),
    "notes": (2, 2),
    "table": (3, 3),
    "said": (3, None),
    "saidby": (4, None),
    "ran": (1, None),
    "join": (3, 3),
    "without": (3, 3),
    "paired": (3, None),
}

# Each is told the programs of a desk and the words that follow, and looks for names first, then for numbers.
ANSWERS = {
    "program": answer_program,
    "drop": answer_drop,
    "show": answer_show,
    "places": answer_places,
    "notes": answer_notes,
    "table": answer_table,
    "said": answer_said,
    "saidby": answer_saidby,
    "ran": answer_ran,
    "join": answer_join,
    "without": answer_without,
    "paired": answer_paired,
}


def is_row_of_desk(words):
    if words[0] not in FORMS:
        return False
    form = FORMS[words[0]]
    many = len(words) - 1
    return form[0] <= many and (form[1] is None or many <= form[1])


class Desk:
    def __init__(self):
        self.programs = {}

    def say(self, row):
        words = row.split(" ") if isinstance(row, str) else [""]
        if not is_row_of_desk(words):
            raise NoRow("this is no row of the desk")
        return ANSWERS[words[0]](self.programs, words[1:])
