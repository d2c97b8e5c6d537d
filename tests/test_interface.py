import importlib
import inspect
import unittest

INTERFACE = {
    "vectors": {
        "parity": "(number)",
        "rank": "(width, vectors)",
        "basis": "(width, vectors)",
        "is_in_span": "(width, vectors, address)",
        "span": "(width, vectors)",
        "annihilator": "(width, vectors)",
    },
    "maps": {
        "is_map": "(width, value)",
        "bank": "(width, masks, address)",
        "kernel": "(width, masks)",
        "bank_count": "(width, masks)",
        "joined": "(width, *maps)",
        "recoding": "(width, masks, others)",
        "completed": "(width, masks)",
        "inverse": "(width, masks)",
    },
    "groups": {
        "is_group": "(width, value)",
        "are_groups": "(width, value)",
        "differences": "(width, groups)",
        "strided": "(width, start, step, count)",
        "block": "(width, start, vectors)",
        "as_block": "(width, group)",
    },
    "conflicts": {
        "degrees": "(width, masks, groups)",
        "cycles": "(width, masks, groups)",
        "is_free": "(width, masks, groups)",
        "conflicts": "(width, masks, groups)",
        "first_conflict": "(width, masks, groups)",
        "hidden": "(width, masks, differences)",
    },
    "counting": {
        "polynomial": "(width, differences)",
        "value_at": "(coefficients, number)",
        "count_maps": "(width, differences, bits)",
        "least_bits": "(width, differences)",
        "kernel_counts": "(width, differences)",
        "contracted": "(width, differences, address)",
    },
    "cases": {
        "free_map": "(width, differences, bits)",
        "division": "(width, differences, bits)",
        "shows_division": "(width, differences, bits, value)",
        "ends": "(value)",
    },
    "extending": {
        "further_bits": "(width, masks, differences)",
        "count_extensions": "(width, masks, differences, bits)",
        "extended": "(width, masks, differences)",
        "useless": "(width, masks, differences)",
    },
    "sharing": {
        "shared_map": "(width, one, other)",
        "meet": "(width, one, other)",
        "sum_basis": "(width, one, other)",
        "block_degree": "(width, masks, vectors)",
        "is_shared": "(width, masks, *patterns)",
    },
    "lightest": {
        "weight": "(width, masks)",
        "lightened": "(width, masks)",
        "least_weight": "(width, differences, bits)",
        "lightest_map": "(width, differences, bits)",
    },
    "best": {
        "fewest_cycles": "(width, groups, bits)",
        "quickest_map": "(width, groups, bits)",
        "least_degree": "(width, groups, bits)",
        "smoothest_map": "(width, groups, bits)",
        "trade": "(width, groups)",
    },
    "trials": {
        "held_in": "(layout, look)",
        "tried": "(layout, edits)",
    },
    "texts": {
        "format_map": "(width, masks)",
        "format_groups": "(width, groups)",
        "format_polynomial": "(coefficients)",
        "format_layout": "(layout)",
        "parse_map": "(width, text)",
        "parse_groups": "(width, text)",
        "parse_layout": "(text)",
    },
}
CLASSES = {
    "layout": {
        "Layout": {
            "__init__": "(self, width, *, masks=())",
            "__eq__": "(self, other)",
            "set_masks": "(self, masks)",
            "add_mask": "(self, mask)",
            "drop_mask": "(self, index)",
            "put": "(self, name, group)",
            "drop": "(self, name)",
            "names": "(self)",
            "group": "(self, name)",
            "groups": "(self)",
            "conflicts": "(self)",
            "is_free": "(self)",
            "cycles": "(self)",
            "missing_bits": "(self)",
            "undo": "(self)",
            "changes": "(self)",
            "copy": "(self)",
        },
    },
    "trials": {
        "Trial": {"__init__": "(self, layout)", "__enter__": "(self)", "__exit__": "(self, kind, value, trace)"},
    },
    "desk": {"Desk": {"__init__": "(self)", "say": "(self, line)"}},
}
ERRORS = (
    "BankError InvalidWidth InvalidVectors InvalidMap InvalidAddress InvalidGroup InvalidGroups"
    " InvalidDifferences InvalidBits InvalidCount InvalidNumber InvalidName UnknownName InvalidIndex InvalidText"
    " InvalidLine NotIncluded TooMany NotInvertible Dependent NothingToUndo NoLayout"
).split()


class Interface(unittest.TestCase):
    def test_functions_are_defined_in_their_files(self):
        for file, functions in INTERFACE.items():
            module = importlib.import_module("xorbanks." + file)
            for name, signature in functions.items():
                function = getattr(module, name)
                self.assertTrue(inspect.isfunction(function), name)
                self.assertEqual(function.__module__, module.__name__, name)
                self.assertEqual(str(inspect.signature(function)), signature, name)

    def test_classes_and_their_methods_are_defined_in_their_files(self):
        for file, classes in CLASSES.items():
            module = importlib.import_module("xorbanks." + file)
            for name, methods in classes.items():
                made = getattr(module, name)
                self.assertEqual(made.__module__, module.__name__, name)
                for method, signature in methods.items():
                    self.assertIn(method, vars(made), name)
                    self.assertEqual(str(inspect.signature(vars(made)[method])), signature, method)

    def test_properties_and_class_methods(self):
        layout = importlib.import_module("xorbanks.layout").Layout
        for name in ("width", "masks", "bits"):
            self.assertIsInstance(vars(layout)[name], property)
            self.assertIsNone(vars(layout)[name].fset)
        self.assertIsInstance(vars(layout)["of_groups"], classmethod)
        self.assertEqual(str(inspect.signature(layout.of_groups)), "(width, groups)")

    def test_errors_are_defined_in_their_file(self):
        module = importlib.import_module("xorbanks.errors")
        for name in ERRORS:
            self.assertEqual(getattr(module, name).__module__, module.__name__)


if __name__ == "__main__":
    unittest.main()
