import unittest

from besideandthrough import errors


class Errors(unittest.TestCase):
    def test_all_are_deeds_errors(self):
        self.assertTrue(issubclass(errors.DeedsError, ValueError))
        for name in ("TextError", "BookError", "KindError", "PaperError", "WorldError",
                     "WebError", "TooLarge", "MachineError", "BenchError"):
            with self.subTest(name):
                made = getattr(errors, name)
                self.assertTrue(issubclass(made, errors.DeedsError))
                self.assertEqual(made.__bases__, (errors.DeedsError,))

    def test_text_error(self):
        error = errors.TextError(3, 5)
        self.assertEqual((error.line, error.token), (3, 5))

    def test_errors_with_one_part(self):
        self.assertEqual(errors.BookError(2).layer, 2)
        self.assertEqual(errors.KindError("main").where, "main")
        self.assertEqual(errors.PaperError(4).row, 4)
        self.assertEqual(errors.WorldError(0).row, 0)

    def test_errors_without_parts(self):
        for made in (errors.WebError, errors.TooLarge, errors.MachineError, errors.BenchError):
            self.assertIsInstance(made(), errors.DeedsError)
            self.assertEqual(str(made("why")), "why")


if __name__ == "__main__":
    unittest.main()
