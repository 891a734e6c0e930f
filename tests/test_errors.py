import unittest

from followmost import errors

NAMES = ["NoWeb", "NoStand", "TooLong", "NoOrder", "TooMuch", "NoRest", "NoPeople", "NoText", "NoRow"]


class Refusals(unittest.TestCase):

    def test_each_stands_straight_under_the_one(self):
        self.assertEqual(errors.MostError.__bases__, (ValueError,))
        for name in NAMES:
            self.assertEqual(getattr(errors, name).__bases__, (errors.MostError,), name)

    def test_none_is_another(self):
        for name in NAMES:
            for other in NAMES:
                under = issubclass(getattr(errors, name), getattr(errors, other))
                self.assertEqual(under, name == other, (name, other))

    def test_each_can_be_raised_and_taken(self):
        for name in NAMES:
            for kind in (getattr(errors, name), errors.MostError, ValueError):
                with self.assertRaises(kind):
                    raise getattr(errors, name)(7)

    def test_a_text_refused_tells_its_line(self):
        self.assertEqual(errors.NoText(0).line, 0)
        refusal = errors.NoText(12)
        with self.assertRaises(errors.NoText) as taken:
            raise refusal
        self.assertEqual(taken.exception.line, 12)
        self.assertEqual(errors.NoText(line=3).line, 3)
