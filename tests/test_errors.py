"""[5]: the errors."""

import inspect
import unittest

from washedarms import errors
from washedarms.errors import LabError

PARAMETERS = """BadNumber(value), BadTicks(value), BadLength(value), TooGreat(most), BadLab(word, place),
BadTask(word, place), BadStanding(word, place), BadState(value), BadTool(value), BadSample(value), BadStep(value),
BadPair(), BadText(line, word), BadRow(value), BadLot(value), BadDealing(value), NotPlain(), NeverClean(), NotEven(),
BadMove(value), BadLateness(value), Broken(), BadRun(index, why), BadChart(why), BadDues(place),
BadPaper(name, index, why), NoRow(standing), BadHistory(value), BadOrder(word, place), Unsound(fault), BadFate(job),
BadList(value), NotOpen(), BadRenaming(), BadSymmetry(), BadCover(which, index, why), NotEasier(), BadEvent(word),
BadHouse(number), BadEntry(index, why), BadShape(shape), BadWish(value), BadWhat(what)"""

VALUES = (0, None, True, "a text", "", (1, (2,)), [3], {}, object(), 10 ** 5000)


def told():
    """The pairs of a name and its parameters."""
    for part in PARAMETERS.replace("\n", " ").split("),"):
        name, words = part.strip().rstrip(")").split("(")
        yield name, [word for word in words.split(", ") if word]


class ErrorsTest(unittest.TestCase):
    def test_names_and_bases(self):
        self.assertEqual(LabError.__bases__, (ValueError,))
        self.assertEqual(len(list(told())), 43)
        for name, _ in told():
            self.assertEqual(getattr(errors, name).__bases__, (LabError,), name)
            self.assertEqual(getattr(errors, name).__name__, name)

    def test_nothing_else_is_there(self):
        found = [name for name, one in vars(errors).items() if inspect.isclass(one)]
        self.assertEqual(sorted(found), sorted(["LabError"] + [name for name, _ in told()]))

    def test_made_by_place_and_by_name(self):
        for name, words in told():
            made = getattr(errors, name)
            for shift in range(len(VALUES)):
                row = [VALUES[(shift + place) % len(VALUES)] for place in range(len(words))]
                for error in (made(*row), made(**dict(zip(words, row)))):
                    self.assertIsInstance(error, made)
                    for word, value in zip(words, row):
                        self.assertIs(getattr(error, word), value)
            self.assertEqual(sorted(vars(made(*words))), sorted(words))

    def test_wrong_numbers_of_things(self):
        for name, words in told():
            made = getattr(errors, name)
            if words:
                with self.assertRaises(TypeError):
                    made(*words[1:])
                with self.assertRaises(TypeError):
                    made(*words, 1)

    def test_raised_and_caught(self):
        for name, words in told():
            made = getattr(errors, name)
            with self.assertRaises(LabError) as caught:
                raise made(*words)
            self.assertIs(type(caught.exception), made)
            with self.assertRaises(ValueError):
                raise made(*words)

    def test_operators(self):
        one, other = errors.BadNumber(3), errors.BadNumber(3)
        self.assertTrue(one == one)
        self.assertFalse(one == 3)
        self.assertTrue(one != 3)
        self.assertFalse(one != one)
        for value in (other, 3, "3"):
            with self.assertRaises(TypeError):
                one < value
            with self.assertRaises(TypeError):
                one + value


if __name__ == "__main__":
    unittest.main()
