import unittest

from archrow import errors

NAMES = [
    "NoRow", "NoTie", "NoStretch", "NoWeights", "NoNumber", "NoSet",
    "NoGap", "NoPlace", "NoShape", "NoText", "NoForm", "NoneYet",
]


class ErrorsTest(unittest.TestCase):
    def test_arch_error_stands_under_value_error(self):
        self.assertEqual(errors.ArchError.__bases__, (ValueError,))

    def test_each_stands_straight_under_arch_error(self):
        for name in NAMES:
            self.assertEqual(getattr(errors, name).__bases__, (errors.ArchError,), name)

    def test_none_stands_under_another(self):
        classes = [getattr(errors, name) for name in NAMES]
        self.assertEqual(len(set(classes)), 12)
        for one in classes:
            self.assertEqual([other for other in classes if issubclass(one, other)], [one])

    def test_each_bears_its_name_and_can_be_raised(self):
        for name in NAMES:
            made = getattr(errors, name)
            self.assertEqual(made.__name__, name)
            with self.assertRaises(errors.ArchError):
                raise made("why")


if __name__ == "__main__":
    unittest.main()
