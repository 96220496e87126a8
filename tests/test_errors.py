import unittest

from tiercask import errors

OF_TEXT = ["NoNumber", "NoPlace", "NoCask", "NoRule", "TooMany", "NoText", "NotSteady",
           "NoDeed", "NoChange", "NoRow", "NoName"]
OF_AT = ["Lacking", "Full", "Tied"]


def class_of(name):
    return getattr(errors, name)


class ErrorsTest(unittest.TestCase):
    def test_every_class_is_there_and_a_refusal(self):
        for name in OF_TEXT + OF_AT:
            with self.subTest(name=name):
                self.assertEqual(class_of(name).__name__, name)
                self.assertTrue(issubclass(class_of(name), errors.TierError))
                self.assertTrue(issubclass(class_of(name), ValueError))

    def test_tier_error_is_a_value_error(self):
        self.assertTrue(issubclass(errors.TierError, ValueError))
        self.assertIsNot(errors.TierError, ValueError)
        self.assertIsInstance(errors.TierError("a text"), ValueError)

    def test_none_stands_under_another(self):
        for name in OF_TEXT + OF_AT:
            for other in OF_TEXT + OF_AT:
                if name != other:
                    with self.subTest(name=name, other=other):
                        self.assertFalse(issubclass(class_of(name), class_of(other)))

    def test_made_of_a_text(self):
        for name in OF_TEXT:
            with self.subTest(name=name):
                with self.assertRaises(class_of(name)) as caught:
                    raise class_of(name)("some words")
                self.assertEqual(str(caught.exception), "some words")

    def test_made_of_at(self):
        for name in OF_AT:
            for at in (0, 1, 199):
                with self.subTest(name=name, at=at):
                    with self.assertRaises(class_of(name)) as caught:
                        raise class_of(name)(at)
                    self.assertEqual(caught.exception.at, at)

    def test_at_is_each_objects_own(self):
        for name in OF_AT:
            with self.subTest(name=name):
                one = class_of(name)(3)
                other = class_of(name)(at=4)
                self.assertEqual((one.at, other.at), (3, 4))


if __name__ == "__main__":
    unittest.main()
