"""Point 12: the classes of refusal."""

import unittest

from passring import errors

KINDS = ["NoRing", "NoStation", "NoMessage", "IsOff", "IsOn", "NoToken"]


class RefusalClasses(unittest.TestCase):

    def test_ring_error_stands_straight_under_value_error(self):
        self.assertEqual(errors.RingError.__bases__, (ValueError,))

    def test_each_kind_stands_straight_under_ring_error(self):
        for kind in KINDS:
            with self.subTest(kind=kind):
                self.assertEqual(getattr(errors, kind).__bases__, (errors.RingError,))

    def test_each_kind_is_its_own_class_of_its_own_name(self):
        for kind in KINDS + ["RingError"]:
            with self.subTest(kind=kind):
                self.assertEqual(getattr(errors, kind).__name__, kind)

    def test_each_kind_is_caught_as_itself_as_ring_error_and_as_value_error(self):
        for kind in KINDS:
            refusal = getattr(errors, kind)
            for caught_as in (refusal, errors.RingError, ValueError):
                with self.subTest(kind=kind, caught_as=caught_as):
                    with self.assertRaises(caught_as):
                        raise refusal("why")

    def test_no_kind_is_caught_as_a_neighbour(self):
        for kind in KINDS:
            for other in KINDS:
                if kind == other:
                    continue
                with self.subTest(kind=kind, other=other):
                    self.assertFalse(self.caught(kind, other))

    def test_ring_error_is_caught_as_none_of_its_kinds(self):
        for other in KINDS:
            with self.subTest(other=other):
                self.assertFalse(self.caught("RingError", other))

    def caught(self, kind, other):
        try:
            raise getattr(errors, kind)("why")
        except getattr(errors, other):
            return True
        except ValueError:
            return False


if __name__ == "__main__":
    unittest.main()
