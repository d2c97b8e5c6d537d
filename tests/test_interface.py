import importlib
import inspect
import unittest

INTERFACE = {
    "vectors": {
        "parity": "(number)",
        "rank": "(width, vectors)",
        "basis": "(width, vectors)",
        "is_in_span": "(width, vectors, address)",
        "span": "(width, vectors)",
        "annihilator": "(width, vectors)",
    },
    "maps": {
        "is_map": "(width, value)",
        "bank": "(width, masks, address)",
        "kernel": "(width, masks)",
        "bank_count": "(width, masks)",
        "joined": "(width, *maps)",
        "recoding": "(width, masks, others)",
        "completed": "(width, masks)",
        "inverse": "(width, masks)",
    },
}
ERRORS = (
    "BankError InvalidWidth InvalidVectors InvalidMap InvalidAddress InvalidGroup InvalidGroups"
    " InvalidDifferences InvalidBits InvalidCount InvalidNumber InvalidName UnknownName InvalidIndex InvalidText"
    " InvalidLine NotIncluded TooMany NotInvertible Dependent NothingToUndo NoLayout"
).split()


class Interface(unittest.TestCase):
    def test_functions_are_defined_in_their_files(self):
        for file, functions in INTERFACE.items():
            module = importlib.import_module("xorbanks." + file)
            for name, signature in functions.items():
                function = getattr(module, name)
                self.assertTrue(inspect.isfunction(function), name)
                self.assertEqual(function.__module__, module.__name__, name)
                self.assertEqual(str(inspect.signature(function)), signature, name)

    def test_errors_are_defined_in_their_file(self):
        module = importlib.import_module("xorbanks.errors")
        for name in ERRORS:
            self.assertEqual(getattr(module, name).__module__, module.__name__)


if __name__ == "__main__":
    unittest.main()
