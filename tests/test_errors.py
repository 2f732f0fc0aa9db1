import unittest

from batchpipe import errors
from batchpipe.errors import (
    BadDeed, BadFill, BadLater, BadRow, NoDeed, NoPlan, NoSpacer, NoWay, PipeError, Touch,
)

REFUSALS = [BadFill, Touch, NoWay, NoSpacer, BadDeed, NoPlan, NoDeed, BadLater, BadRow]


def one_of_each():
    return [
        BadFill(), Touch(("oil", "gas")), NoWay(), NoSpacer(), BadDeed("way"),
        NoPlan(), NoDeed(), BadLater(3, "low"), BadRow(7),
    ]


class ErrorClasses(unittest.TestCase):
    def test_pipe_error_stands_straight_under_value_error(self):
        self.assertEqual(PipeError.__bases__, (ValueError,))

    def test_each_refusal_stands_straight_under_pipe_error(self):
        for refusal in REFUSALS:
            with self.subTest(refusal=refusal.__name__):
                self.assertEqual(refusal.__bases__, (PipeError,))

    def test_no_refusal_stands_under_another(self):
        for one in REFUSALS:
            for other in REFUSALS:
                with self.subTest(one=one.__name__, other=other.__name__):
                    self.assertEqual(issubclass(one, other), one is other)

    def test_there_are_ten_classes(self):
        found = [x for x in vars(errors).values() if isinstance(x, type)]
        self.assertEqual(len(found), 10)
        self.assertEqual(set(found), set(REFUSALS) | {PipeError})

    def test_a_refusal_is_taken_as_itself_and_as_its_bases_alone(self):
        for error in one_of_each():
            for taken in [type(error), PipeError, ValueError]:
                with self.subTest(error=type(error).__name__, taken=taken.__name__):
                    with self.assertRaises(taken):
                        raise error
            for other in REFUSALS:
                if other is not type(error):
                    self.assertNotIsInstance(error, other)


class Fields(unittest.TestCase):
    def test_touch_has_its_pair(self):
        self.assertEqual(Touch(("oil", "gas")).pair, ("oil", "gas"))
        self.assertEqual(Touch(("gas", "oil")).pair, ("gas", "oil"))

    def test_bad_deed_has_its_word(self):
        for word in ["way", "source", "touch", "low", "high", "order", "tank", "early", "late", "settle"]:
            self.assertEqual(BadDeed(word).word, word)

    def test_bad_later_has_its_place_and_word(self):
        error = BadLater(3, "settle")
        self.assertEqual(error.place, 3)
        self.assertEqual(error.word, "settle")
        self.assertEqual(BadLater(0, "way").place, 0)

    def test_bad_row_has_its_row(self):
        self.assertEqual(BadRow(0).row, 0)
        self.assertEqual(BadRow(399).row, 399)

    def test_two_errors_of_a_class_keep_their_own_fields(self):
        first, second = BadLater(1, "low"), BadLater(2, "high")
        self.assertEqual((first.place, first.word), (1, "low"))
        self.assertEqual((second.place, second.word), (2, "high"))

    def test_the_words_can_be_written_whatever_the_size_of_the_numbers(self):
        huge = 10 ** 6000
        for error in one_of_each() + [BadLater(huge, "low"), BadRow(huge)]:
            self.assertIsInstance(str(error), str)
            self.assertIsInstance(repr(error), str)
        self.assertEqual(BadLater(huge, "low").place, huge)
        self.assertEqual(BadRow(huge).row, huge)


if __name__ == "__main__":
    unittest.main()
