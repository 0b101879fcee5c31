import unittest

from barredrows import errors
from tests.helpers import Thing

CLASSES = {
    "BarredError": (ValueError, {
        "InvalidSigns": ["value"], "InvalidTable": ["position"], "InvalidWords": ["position"],
        "InvalidLimits": ["sign"], "InvalidSteps": ["position"], "InvalidBounds": ["low", "high"],
        "InvalidMedium": ["value"], "InvalidState": ["value"], "InvalidSign": ["value"],
        "InvalidRow": ["value"], "InvalidCount": ["value"], "InvalidNumber": ["value"],
        "InvalidDescription": ["line"], "InvalidRate": ["value"], "InvalidNumbers": ["position"],
        "InvalidPaper": ["value"], "InvalidCoder": ["value"], "InvalidWord": ["value"],
        "InvalidText": ["position"], "InvalidBlock": ["value"], "InvalidSharing": ["position"],
        "InvalidChoice": ["value"], "InvalidBits": ["position"], "InvalidMark": ["value"],
        "InvalidName": ["value"], "InvalidThing": ["value"], "InvalidClaim": ["value"],
        "InvalidCommand": ["value"],
    }),
    "MissingError": (LookupError, {"UnknownWay": ["state", "sign"], "UnknownName": ["value"]}),
    "StateError": (RuntimeError, {
        "NothingLeft": [], "OtherSigns": ["one", "other"], "OtherRate": ["one", "other"],
        "OtherMedium": [], "NoWeights": ["paper"], "DoesNotFit": ["text"], "LosesSomething": ["clash"],
        "NoLookAhead": [], "NoWindow": [], "NotEven": [], "Lost": ["position"], "NameTaken": ["name"],
        "NothingToUndo": [], "CommandFailed": ["position"],
    }),
    "LimitError": (ArithmeticError, {"TooMany": ["what", "limit"]}),
}


class Errors(unittest.TestCase):
    def test_bases(self):
        for base, (python, classes) in CLASSES.items():
            self.assertEqual(getattr(errors, base).__bases__, (python,))
            for name in classes:
                self.assertEqual(getattr(errors, name).__bases__, (getattr(errors, base),), name)

    def test_all_are_listed(self):
        listed = [name for base, (_, classes) in CLASSES.items() for name in [base, *classes]]
        found = [name for name, value in vars(errors).items() if isinstance(value, type)]
        self.assertEqual(sorted(found), sorted(listed))

    def test_attributes_by_position_and_by_name(self):
        for _, classes in CLASSES.values():
            for name, attributes in classes.items():
                values = [Thing() for _ in attributes]
                expected = dict(zip(attributes, values))
                error = getattr(errors, name)
                self.assertEqual(vars(error(*values)), expected, name)
                self.assertEqual(vars(error(**expected)), expected, name)

    def test_any_values(self):
        for value in ([], {"a": [1]}, None, True, 10 ** 50, "x" * 100):
            for _, classes in CLASSES.values():
                for name, attributes in classes.items():
                    error = getattr(errors, name)(*[value for _ in attributes])
                    self.assertEqual([getattr(error, attribute) for attribute in attributes],
                                     [value for _ in attributes])

    def test_caught_by_their_bases(self):
        for base, python in ((errors.BarredError, ValueError), (errors.InvalidBounds, ValueError)):
            self.assertTrue(issubclass(base, python))
        with self.assertRaises(LookupError):
            raise errors.UnknownWay(0, "a")
        with self.assertRaises(RuntimeError):
            raise errors.NothingLeft()
        with self.assertRaises(ArithmeticError):
            raise errors.TooMany("states", 16)
