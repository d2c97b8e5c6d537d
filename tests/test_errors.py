import unittest

from tests.support import NESTED, Case
from xorbanks import errors

WITH_VALUE = (
    "InvalidWidth InvalidVectors InvalidMap InvalidAddress InvalidGroup InvalidGroups InvalidDifferences"
    " InvalidBits InvalidCount InvalidNumber InvalidName UnknownName InvalidIndex InvalidText InvalidLine"
    " NotIncluded TooMany"
).split()
WITHOUT = "NotInvertible Dependent NothingToUndo NoLayout".split()
VALUES = (0, -1, 10 ** 5000, True, False, None, "", "text", (), (1, (2,)), [], [1, [2]], {}, {1: [2]}, NESTED)


class Errors(Case):
    def test_base(self):
        self.assertEqual(errors.BankError.__bases__, (ValueError,))

    def test_each_is_a_direct_subclass_of_the_base(self):
        for name in WITH_VALUE + WITHOUT:
            self.assertEqual(getattr(errors, name).__bases__, (errors.BankError,), name)

    def test_no_other_class(self):
        classes = {name for name, held in vars(errors).items() if isinstance(held, type)}
        self.assertEqual(classes, {"BankError", *WITH_VALUE, *WITHOUT})

    def test_value_by_position_and_by_name(self):
        for name in ["BankError", *WITH_VALUE]:
            error = getattr(errors, name)
            for value in VALUES:
                self.assertIs(error(value).value, value, name)
                self.assertIs(error(value=value).value, value, name)

    def test_value_survives_raising(self):
        value = [1, {2: "x"}]
        for name in WITH_VALUE:
            with self.assertRaises(errors.BankError) as caught:
                raise getattr(errors, name)(value)
            self.assertIs(caught.exception.value, value)
            self.assertEqual(value, [1, {2: "x"}])

    def test_value_is_required(self):
        for name in WITH_VALUE:
            error = getattr(errors, name)
            self.assertRaises(TypeError, error)
            self.assertRaises(TypeError, error, 1, 2)
            self.assertRaises(TypeError, lambda: error(number=1))

    def test_base_without_argument(self):
        self.assertIsInstance(errors.BankError(), ValueError)
        self.assertIsNone(errors.BankError().value)
        self.assertRaises(TypeError, errors.BankError, 1, 2)

    def test_made_without_arguments(self):
        for name in WITHOUT:
            error = getattr(errors, name)
            self.assertIs(error().__class__, error)
            self.assertIsNone(error().value)
            self.assertRaises(TypeError, error, 1)
            self.assertRaises(TypeError, lambda: error(value=1))

    def test_caught_as_their_bases(self):
        for name in WITHOUT:
            for base in (errors.BankError, ValueError):
                with self.assertRaises(base):
                    raise getattr(errors, name)()

    def test_none_catches_another(self):
        names = WITH_VALUE + WITHOUT
        for name in names:
            for other in names:
                related = issubclass(getattr(errors, name), getattr(errors, other))
                self.assertEqual(related, name == other)


if __name__ == "__main__":
    unittest.main()
