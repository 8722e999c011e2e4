"""The error classes: their fields, and which of them catches which."""

import unittest

from shortspans import errors

VALUE_CLASSES = ("BadBase", "BadNumber", "BadDigits", "BadRange", "BadReader", "BadManner", "BadName")
PLACE_CLASSES = ("BadRule", "BadEntry")
FIELDS = {"SpanError": (), "BadText": ("line", "word"), "OtherBase": (),
          "TooMany": ("most",), "Missing": ("name",), "NothingLeft": ()}
FIELDS.update({name: ("value",) for name in VALUE_CLASSES})
FIELDS.update({name: ("place",) for name in PLACE_CLASSES})
FOREIGN = {"TooMany": OverflowError, "Missing": KeyError, "NothingLeft": RuntimeError}
BUILTIN = (ValueError, OverflowError, ArithmeticError, KeyError, LookupError, RuntimeError, TypeError)
VALUES = (None, True, False, 0, -1, 10 ** 5000, "", "a b", "a\nb", b"x", (), (1, "x"), [1, [2]], {"a": (1,)})


def own_classes():
    return {name: getattr(errors, name) for name in FIELDS}


class Fields(unittest.TestCase):
    def check_one(self, name, field):
        made = own_classes()[name]
        for value in VALUES:
            for error in (made(value), made(**{field: value})):
                self.assertEqual(getattr(error, field), value)
                self.assertIs(getattr(error, field).__class__, value.__class__)
        for args in ((), (1, 2)):
            with self.assertRaises(TypeError):
                made(*args)
        with self.assertRaises(TypeError):
            made(other=1)

    def test_one_field(self):
        for name, fields in FIELDS.items():
            if len(fields) == 1:
                with self.subTest(name=name):
                    self.check_one(name, fields[0])

    def test_two_fields(self):
        made = (errors.BadText(3, 7), errors.BadText(line=3, word=7), errors.BadText(word=7, line=3),
                errors.BadText(3, word=7))
        for error in made:
            self.assertEqual((error.line, error.word), (3, 7))
        for args in ((), (1,), (1, 2, 3)):
            with self.assertRaises(TypeError):
                errors.BadText(*args)

    def test_no_field(self):
        for made in (errors.OtherBase, errors.NothingLeft):
            self.assertIsInstance(made(), made)
            with self.assertRaises(TypeError):
                made(1)

    def test_shown(self):
        # A message must not fail either, however great the integer that was refused.
        for name, fields in FIELDS.items():
            error = own_classes()[name](*[10 ** 5000 for field in fields])
            self.assertIsInstance(str(error), str)
            self.assertIsInstance(repr(error), str)


class Family(unittest.TestCase):
    def test_bases(self):
        for name, made in own_classes().items():
            base = ValueError if name == "SpanError" else FOREIGN.get(name, errors.SpanError)
            self.assertEqual(made.__bases__, (base,), name)

    def test_none_is_below_another(self):
        for name, made in own_classes().items():
            for other_name, other in own_classes().items():
                expected = name == other_name or (other_name == "SpanError" and name not in FOREIGN)
                self.assertIs(issubclass(made, other), expected, (name, other_name))

    def test_builtin_classes_above(self):
        for name, made in own_classes().items():
            base = FOREIGN.get(name, ValueError)
            for above in BUILTIN:
                self.assertIs(issubclass(made, above), issubclass(base, above), (name, above))

    def test_caught(self):
        for name, made in own_classes().items():
            for above in made.__mro__[:-1]:
                with self.assertRaises(above) as caught:
                    raise made(*[1 for field in FIELDS[name]])
                self.assertIs(caught.exception.__class__, made)


if __name__ == "__main__":
    unittest.main()
