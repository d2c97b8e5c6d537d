import importlib
import inspect
import unittest

INTERFACE = {
    "vectors": {
        "parity": "(number)",
        "rank": "(width, vectors)",
        "basis": "(width, vectors)",
        "is_in_span": "(width, vectors, address)",
        "span": "(width, vectors)",
        "annihilator": "(width, vectors)",
    },
    "maps": {
        "is_map": "(width, value)",
        "bank": "(width, masks, address)",
        "kernel": "(width, masks)",
        "bank_count": "(width, masks)",
        "joined": "(width, *maps)",
        "recoding": "(width, masks, others)",
        "completed": "(width, masks)",
        "inverse": "(width, masks)",
    },
    "groups": {
        "is_group": "(width, value)",
        "are_groups": "(width, value)",
        "differences": "(width, groups)",
        "strided": "(width, start, step, count)",
        "block": "(width, start, vectors)",
        "as_block": "(width, group)",
    },
    "conflicts": {
        "degrees": "(width, masks, groups)",
        "cycles": "(width, masks, groups)",
        "is_free": "(width, masks, groups)",
        "conflicts": "(width, masks, groups)",
        "first_conflict": "(width, masks, groups)",
        "hidden": "(width, masks, differences)",
    },
    "counting": {
        "polynomial": "(width, differences)",
        "value_at": "(coefficients, number)",
        "count_maps": "(width, differences, bits)",
        "least_bits": "(width, differences)",
        "kernel_counts": "(width, differences)",
        "contracted": "(width, differences, address)",
    },
    "cases": {
        "free_map": "(width, differences, bits)",
        "division": "(width, differences, bits)",
        "shows_division": "(width, differences, bits, value)",
        "ends": "(value)",
    },
    "extending": {
        "further_bits": "(width, masks, differences)",
        "count_extensions": "(width, masks, differences, bits)",
        "extended": "(width, masks, differences)",
        "useless": "(width, masks, differences)",
    },
    "sharing": {
        "shared_map": "(width, one, other)",
        "meet": "(width, one, other)",
        "sum_basis": "(width, one, other)",
        "block_degree": "(width, masks, vectors)",
        "is_shared": "(width, masks, *patterns)",
    },
    "lightest": {
        "weight": "(width, masks)",
        "lightened": "(width, masks)",
        "least_weight": "(width, differences, bits)",
        "lightest_map": "(width, differences, bits)",
    },
    "best": {
        "fewest_cycles": "(width, groups, bits)",
        "quickest_map": "(width, groups, bits)",
        "least_degree": "(width, groups, bits)",
        "smoothest_map": "(width, groups, bits)",
        "trade": "(width, groups)",
    },
}
ERRORS = (
    "BankError InvalidWidth InvalidVectors InvalidMap InvalidAddress InvalidGroup InvalidGroups"
    " InvalidDifferences InvalidBits InvalidCount InvalidNumber InvalidName UnknownName InvalidIndex InvalidText"
    " InvalidLine NotIncluded TooMany NotInvertible Dependent NothingToUndo NoLayout"
).split()


class Interface(unittest.TestCase):
    def test_functions_are_defined_in_their_files(self):
        for file, functions in INTERFACE.items():
            module = importlib.import_module("xorbanks." + file)
            for name, signature in functions.items():
                function = getattr(module, name)
                self.assertTrue(inspect.isfunction(function), name)
                self.assertEqual(function.__module__, module.__name__, name)
                self.assertEqual(str(inspect.signature(function)), signature, name)

    def test_errors_are_defined_in_their_file(self):
        module = importlib.import_module("xorbanks.errors")
        for name in ERRORS:
            self.assertEqual(getattr(module, name).__module__, module.__name__)


if __name__ == "__main__":
    unittest.main()
