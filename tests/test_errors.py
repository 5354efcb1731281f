import unittest

from deepcodes import errors

WITH_MESSAGE = (
    "InvalidInput", "InvalidTable", "InvalidFormula", "InvalidRestriction", "InvalidTree", "InvalidCode",
    "InvalidCircuit", "InvalidClaim", "InvalidOperation",
)
WITH_VALUE = {
    "InvalidNumber": "given", "UnknownName": "wanted", "TooMany": "most", "Refused": "reason", "ParseError": "at",
}


class TestErrors(unittest.TestCase):
    """[0.18]"""

    def test_bases(self):
        self.assertEqual(errors.DeepError.__bases__, (ValueError,))
        for name in (*WITH_MESSAGE, *WITH_VALUE):
            self.assertEqual(getattr(errors, name).__bases__, (errors.DeepError,), name)

    def test_messages(self):
        for name in WITH_MESSAGE:
            error = getattr(errors, name)("why it is so")
            self.assertEqual(str(error), "why it is so")

    def test_values(self):
        for name, attribute in WITH_VALUE.items():
            for value in (3, -1, True, None, "x", (1, 2), [], {}, 10 ** 100, ("deep", 1)):
                error = getattr(errors, name)(value)
                self.assertIs(getattr(error, attribute), value)
                self.assertIsInstance(str(error), str)

    def test_long_values(self):
        self.assertEqual(errors.InvalidNumber(10 ** 5000).given, 10 ** 5000)


if __name__ == "__main__":
    unittest.main()
