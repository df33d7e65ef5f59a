import unittest

from evennotes.errors import (
    Needed, NoBox, NoName, NoNumber, NoRow, NoRun, NoteError, NoText, NotAlike, TooGreat)

REFUSALS = [NoRun, NotAlike, NoBox, Needed, TooGreat, NoText, NoRow, NoName, NoNumber]


class Refusals(unittest.TestCase):
    def test_note_error_stands_straight_under_value_error(self):
        self.assertEqual(NoteError.__bases__, (ValueError,))

    def test_each_stands_straight_under_note_error(self):
        for refusal in REFUSALS:
            self.assertEqual(refusal.__bases__, (NoteError,), refusal)

    def test_none_stands_under_another(self):
        for one in REFUSALS:
            for other in REFUSALS:
                self.assertEqual(issubclass(one, other), one is other, (one, other))

    def test_names_are_those_of_the_interface(self):
        names = ["NoRun", "NotAlike", "NoBox", "Needed", "TooGreat", "NoText", "NoRow", "NoName", "NoNumber"]
        self.assertEqual([refusal.__name__ for refusal in REFUSALS], names)

    def test_each_is_raised_and_taken_as_a_note_error(self):
        for refusal in REFUSALS:
            with self.assertRaises(NoteError):
                raise refusal(0)

    def test_needed_has_its_place_from_the_begin(self):
        for place in (0, 1, 39):
            self.assertEqual(Needed(place).place, place)
        one, other = Needed(3), Needed(4)
        self.assertEqual((one.place, other.place), (3, 4))


if __name__ == "__main__":
    unittest.main()
