"""The classes of refusals, by the interface of wireparley/errors.py."""

import unittest

from wireparley import errors

NAMES = ["NoValue", "Short", "Broken", "NoTalk", "NoName", "NoText", "NoRow"]


def made(name):
    arguments = {"Broken": (3, "left"), "NoTalk": (4,)}.get(name, ("words",))
    return getattr(errors, name)(*arguments)


class ErrorsTest(unittest.TestCase):

    def test_any_refusal_is_a_value_error(self):
        self.assertTrue(issubclass(errors.ParleyError, ValueError))
        self.assertEqual(errors.ParleyError.__bases__, (ValueError,))

    def test_each_is_a_parley_error(self):
        for name in NAMES:
            with self.subTest(name):
                kind = getattr(errors, name)
                self.assertTrue(issubclass(kind, errors.ParleyError))
                self.assertIsNot(kind, errors.ParleyError)
                with self.assertRaises(errors.ParleyError):
                    raise made(name)
                with self.assertRaises(ValueError):
                    raise made(name)

    def test_none_stands_under_another(self):
        for name in NAMES:
            for other in NAMES:
                if name != other:
                    with self.subTest(f"{name} under {other}"):
                        self.assertFalse(issubclass(getattr(errors, name), getattr(errors, other)))

    def test_broken_has_at_and_side(self):
        error = errors.Broken(7, "right")
        self.assertEqual(error.at, 7)
        self.assertEqual(error.side, "right")
        self.assertIsNone(errors.Broken(0, None).side)
        self.assertEqual(errors.Broken(0, None).at, 0)

    def test_broken_is_made_of_both(self):
        with self.assertRaises(TypeError):
            errors.Broken()
        with self.assertRaises(TypeError):
            errors.Broken(1)

    def test_no_talk_has_at(self):
        self.assertEqual(errors.NoTalk(5).at, 5)
        self.assertEqual(errors.NoTalk(0).at, 0)
        with self.assertRaises(TypeError):
            errors.NoTalk()

    def test_fields_belong_to_each_object(self):
        first = errors.Broken(1, "left")
        second = errors.Broken(2, "right")
        self.assertEqual((first.at, first.side), (1, "left"))
        self.assertEqual((second.at, second.side), (2, "right"))
        early = errors.NoTalk(1)
        late = errors.NoTalk(2)
        self.assertEqual((early.at, late.at), (1, 2))


if __name__ == "__main__":
    unittest.main()
