import unittest

from calltowers.errors import EndedError, PlayError, ProgramError, PromiseError, TextError, TowerError


class ErrorsTest(unittest.TestCase):
    def test_all_derive_directly_from_tower_error(self):
        self.assertEqual(TowerError.__bases__, (ValueError,))
        for kind in (ProgramError, TextError, EndedError, PlayError, PromiseError):
            self.assertEqual(kind.__bases__, (TowerError,))

    def test_fields(self):
        error = ProgramError("form", "main")
        self.assertEqual((error.code, error.proc), ("form", "main"))
        self.assertEqual(TextError(3).at, 3)
        self.assertEqual(EndedError("ended").code, "ended")
        self.assertEqual(PlayError(0).at, 0)
        self.assertEqual(PromiseError(7).at, 7)

    def test_can_be_raised_and_caught_as_tower_error(self):
        for error in (ProgramError("main", ""), TextError(1), EndedError("ended"), PlayError(2), PromiseError(3)):
            with self.assertRaises(TowerError):
                raise error

    def test_has_a_text(self):
        self.assertIsInstance(str(ProgramError("form", "main")), str)
        self.assertIsInstance(str(TowerError("something")), str)


if __name__ == "__main__":
    unittest.main()
