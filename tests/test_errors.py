"""looporder.errors: the classes, their fields and their bases."""

import unittest

from looporder import errors

# The classes of the interface: the one built-in base, and the field.
CLASSES = {
    "InvalidWeb": (ValueError, "place"),
    "UnknownPlace": (LookupError, "place"),
    "LowRing": (ValueError, "ring"),
    "NotSingle": (ValueError, None),
    "InvalidEdges": (ValueError, "index"),
    "InvalidWalk": (ValueError, "index"),
    "InvalidOrder": (ValueError, "index"),
    "InvalidWay": (ValueError, "index"),
    "InvalidNumber": (ValueError, "number"),
    "InvalidSize": (ValueError, "size"),
    "UnknownLoops": (LookupError, "name"),
    "InvalidText": (ValueError, "line"),
    "TooMany": (ValueError, "count"),
}


class ErrorsTest(unittest.TestCase):
    def test_all_classes_exist_and_no_others(self):
        found = [name for name, thing in vars(errors).items() if isinstance(thing, type)]
        self.assertEqual(sorted(CLASSES), sorted(found))

    def test_bases(self):
        for name, (base, _) in CLASSES.items():
            error = getattr(errors, name)
            self.assertTrue(issubclass(error, base), name)
            other = LookupError if base is ValueError else ValueError
            self.assertFalse(issubclass(error, other), name)
            self.assertFalse(issubclass(error, (KeyError, IndexError, UnicodeError)), name)

    def test_no_class_is_a_subclass_of_another(self):
        for name in CLASSES:
            for other in CLASSES:
                expected = name == other
                self.assertEqual(expected, issubclass(getattr(errors, name), getattr(errors, other)), (name, other))

    def test_fields_hold_what_was_passed(self):
        for name, (_, field) in CLASSES.items():
            if field is None:
                continue
            for thing in [0, 7, -1, None, True, "x", [0, 1], (), object()]:
                error = getattr(errors, name)(thing)
                self.assertEqual([field], list(vars(error)), name)
                self.assertIs(thing, getattr(error, field), name)

    def test_not_single_has_no_fields(self):
        self.assertEqual({}, vars(errors.NotSingle()))

    def test_errors_are_caught_by_their_base(self):
        for name, (base, field) in CLASSES.items():
            with self.assertRaises(base):
                raise getattr(errors, name)(*[] if field is None else [0])

    def test_a_message_can_be_made_of_every_error(self):
        class Silent:
            def __repr__(self):
                raise AssertionError("shown")

        for name, (_, field) in CLASSES.items():
            for thing in [None, 10**5000, Silent()]:
                error = getattr(errors, name)(*[] if field is None else [thing])
                self.assertIsInstance(str(error), str)
