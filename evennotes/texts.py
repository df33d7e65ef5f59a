"""Programs as texts (point 23)."""

from evennotes.errors import NoText
from evennotes.programs import MOST_DEEP, is_program

FIGURES = "0123456789"
MOST_FIGURES = 60


def show(program):
    rows = [row_text("boxes", [program[0]])]
    for body in program[1]:
        rows.append("body")
        rows.extend(texts_of_rows(body))
    return "; ".join(rows)


def read(text):
    ask(isinstance(text, str))
    rows = [row.split(" ") for row in text.split("; ")]
    reading = Reading()
    for words in rows[1:]:
        reading.read_row(words)
    ask(len(reading.begun) == 0)
    ask(len(rows[0]) == 2 and rows[0][0] == "boxes")
    program = (number_in(rows[0][1]), reading.bodies)
    ask(is_program(program))
    return program


def ask(truth):
    if not truth:
        raise NoText("this is no text of a program")


def texts_of_rows(rows):
    texts = []
    for row in rows:
        texts.extend(texts_of_row(row))
    return texts


def texts_of_row(row):
    if row[0] == "either":
        return ["either"] + texts_of_rows(row[1]) + ["or"] + texts_of_rows(row[2]) + ["end"]
    if row[0] == "loop":
        return ["loop"] + texts_of_rows(row[1]) + ["end"]
    if row[0] == "set":
        return [row_text("set", (row[1],) + row[2])]
    return [row_text(row[0], row[1:])]


def row_text(word, numbers):
    return " ".join([word] + [str(number) for number in numbers])


# None where the word is no whole number as it is written.
def number_in(word):
    figures = word[1:] if word.startswith("-") else word
    if not 1 <= len(figures) <= MOST_FIGURES or not all([sign in FIGURES for sign in figures]):
        return None
    if figures.startswith("0") and word != "0":
        return None
    return int(word)


# What is no row of a program becomes a tuple that is none either, and is_program tells so.
def row_of(words):
    numbers = [number_in(word) for word in words[1:]]
    if words[0] == "set" and len(numbers) > 0:
        return ("set", numbers[0], tuple(numbers[1:]))
    return (words[0],) + tuple(numbers)


class Reading:
    # lists are the lists of rows that are not yet ended, each within a row of the one ahead of it, or beside it
    # in an either; begun has for each row that is not yet ended the word by which its last list began.
    def __init__(self):
        self.bodies = []
        self.lists = []
        self.begun = []

    def read_row(self, words):
        if words == ["body"]:
            self.begin_body()
        elif words == ["either"] or words == ["loop"]:
            self.begin_row(words[0])
        elif words == ["or"]:
            self.begin_other_list()
        elif words == ["end"]:
            self.end_row()
        else:
            self.add_row(row_of(words))

    def begin_body(self):
        ask(len(self.begun) == 0)
        self.lists = [[]]
        self.bodies.append(self.lists[0])

    # Rows too deep are refused here, so that nothing is ever nested deeper than a program's rows may be.
    def begin_row(self, word):
        ask(len(self.begun) < MOST_DEEP)
        self.begun.append(word)
        self.lists.append([])

    def begin_other_list(self):
        ask(self.begun[-1:] == ["either"])
        self.begun[-1] = "or"
        self.lists.append([])

    def end_row(self):
        ask(len(self.begun) > 0 and self.begun[-1] != "either")
        last = self.lists.pop()
        if self.begun.pop() == "loop":
            self.add_row(("loop", last))
        else:
            self.add_row(("either", self.lists.pop(), last))

    def add_row(self, row):
        ask(len(self.lists) > 0)
        self.lists[-1].append(row)
