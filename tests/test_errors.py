import unittest

from roundpost import errors

NAMES = [
    "BadWeb", "BadPlace", "BadRoad", "BadPieces", "BadRows", "BadRota", "BadRanks", "BadCount", "BadWeek",
    "BadMoment", "BadTrail", "BadWay", "BadOrders", "BadIndex", "BadTree", "BadTable", "BadSnow", "BadRing",
    "BadChain", "BadDay", "BadReports", "BadRotas", "BadScript", "BadName", "BadDemands", "BadJoin", "BadTurns",
    "NothingToUndo", "Full", "BadCommand", "TooMany",
]


def made(name):
    kind = getattr(errors, name)
    return kind(2, 3) if name == "BadRows" else kind("a text")


class Errors(unittest.TestCase):
    def test_post_error_is_directly_under_value_error(self):
        self.assertEqual(errors.PostError.__bases__, (ValueError,))
        self.assertIsInstance(errors.PostError("a text"), ValueError)

    def test_each_is_directly_under_post_error(self):
        for name in NAMES:
            with self.subTest(name):
                self.assertEqual(getattr(errors, name).__bases__, (errors.PostError,))

    def test_each_is_of_its_own_class_and_of_no_other(self):
        for name in NAMES:
            with self.subTest(name):
                error = made(name)
                self.assertIsInstance(error, errors.PostError)
                self.assertIsInstance(error, ValueError)
                held = [other for other in NAMES if isinstance(error, getattr(errors, other))]
                self.assertEqual(held, [name])

    def test_each_can_be_raised_and_caught(self):
        for name in NAMES:
            with self.subTest(name), self.assertRaises(getattr(errors, name)):
                raise made(name)

    def test_there_are_no_others(self):
        kinds = [name for name, thing in vars(errors).items() if isinstance(thing, type)]
        self.assertEqual(sorted(kinds), sorted(NAMES + ["PostError"]))

    def test_those_without_fields_take_one_text(self):
        for name in NAMES:
            if name != "BadRows":
                with self.subTest(name):
                    self.assertEqual(str(getattr(errors, name)("a text")), "a text")

    def test_bad_rows_by_position(self):
        error = errors.BadRows(4, 7)
        self.assertEqual((error.row, error.word), (4, 7))
        self.assertIsInstance(str(error), str)

    def test_bad_rows_by_names(self):
        for error in [errors.BadRows(row=4, word=7), errors.BadRows(word=7, row=4), errors.BadRows(4, word=7)]:
            self.assertEqual((error.row, error.word), (4, 7))

    def test_bad_rows_takes_just_two(self):
        for arguments in [(), (1,), (1, 2, 3)]:
            with self.subTest(arguments), self.assertRaises(TypeError):
                errors.BadRows(*arguments)


if __name__ == "__main__":
    unittest.main()
