import unittest

from seamwright import errors

NAMES = [
    "NoWeb", "NoPiece", "NoChain", "NotClosed", "NoTable", "NoGoal",
    "NoPush", "NoMap", "NoOrder", "NoNumber", "NoNote",
]


class Errors(unittest.TestCase):
    def test_seam_error_stands_under_value_error(self):
        self.assertEqual(errors.SeamError.__bases__, (ValueError,))

    def test_each_stands_straight_under_seam_error(self):
        for name in NAMES:
            with self.subTest(name):
                self.assertEqual(getattr(errors, name).__bases__, (errors.SeamError,))
                self.assertEqual(getattr(errors, name).__name__, name)

    def test_none_is_caught_as_another(self):
        for name in NAMES:
            for other in NAMES:
                with self.subTest(name=name, other=other):
                    caught = None
                    try:
                        raise getattr(errors, name)("refused")
                    except getattr(errors, other):
                        caught = other
                    except errors.SeamError:
                        pass
                    self.assertEqual(caught, name if name == other else None)

    def test_each_is_caught_as_value_error(self):
        for name in NAMES:
            with self.subTest(name), self.assertRaises(ValueError):
                raise getattr(errors, name)("refused")


if __name__ == "__main__":
    unittest.main()
