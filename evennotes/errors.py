"""The refusals, one class for each."""


class NoteError(ValueError):
    pass


class NoRun(NoteError):
    pass


class NotAlike(NoteError):
    pass


class NoBox(NoteError):
    pass


class Needed(NoteError):
    def __init__(self, place):
        NoteError.__init__(self, f"the box is needed at place {place}")
        self.place = place


class TooGreat(NoteError):
    pass


class NoText(NoteError):
    pass


class NoRow(NoteError):
    pass


class NoName(NoteError):
    pass


class NoNumber(NoteError):
    pass
