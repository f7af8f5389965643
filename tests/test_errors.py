import unittest

from wavespots import errors

WITH_GIVEN = ("InvalidSize", "InvalidNumber", "InvalidIndex", "InvalidLot", "InvalidCount", "TooMany")
WITH_INDEX = ("InvalidTurns", "InvalidSignal", "InvalidValues")
WITHOUT = ("WaveError", "NoDivisor")
WHATEVER = (0, -7, True, None, "text", b"bytes", (), (1, (2,)), [3], {4: 5}, {6}, object(), errors.WaveError, 10 ** 500)


class ErrorsTest(unittest.TestCase):
    def check_attribute(self, name, attribute):
        made = getattr(errors, name)
        for value in WHATEVER:
            with self.subTest(name=name, value=value):
                self.assertIs(getattr(made(value), attribute), value)
                self.assertIs(getattr(made(**{attribute: value}), attribute), value)
                with self.assertRaises(errors.WaveError) as caught:
                    raise made(value)
                self.assertIs(getattr(caught.exception, attribute), value)
        for wrong in ((), (1, 2)):
            with self.assertRaises(TypeError):
                made(*wrong)

    def test_given(self):
        for name in WITH_GIVEN:
            self.check_attribute(name, "given")

    def test_index(self):
        for name in WITH_INDEX:
            self.check_attribute(name, "index")

    def test_without_attributes(self):
        for name in WITHOUT:
            made = getattr(errors, name)()
            self.assertEqual(vars(made), {})

    def test_only_one_attribute(self):
        for name in WITH_GIVEN + WITH_INDEX:
            self.assertEqual(len(vars(getattr(errors, name)(3))), 1)

    def test_an_error_keeps_its_attributes_to_itself(self):
        first, second = errors.InvalidSize(1), errors.InvalidSize(2)
        self.assertEqual((first.given, second.given), (1, 2))

    def test_bases(self):
        self.assertEqual(errors.WaveError.__bases__, (ValueError,))
        for name in WITH_GIVEN + WITH_INDEX + ("NoDivisor",):
            with self.subTest(name=name):
                self.assertEqual(getattr(errors, name).__bases__, (errors.WaveError,))

    def test_each_class_is_defined_there(self):
        for name in WITH_GIVEN + WITH_INDEX + WITHOUT:
            made = getattr(errors, name)
            self.assertEqual((made.__module__, made.__name__), ("wavespots.errors", name))

    def test_no_class_catches_another_one(self):
        names = WITH_GIVEN + WITH_INDEX + ("NoDivisor",)
        for name in names:
            for other in names:
                with self.subTest(name=name, other=other):
                    one, two = getattr(errors, name), getattr(errors, other)
                    self.assertEqual(issubclass(one, two), name == other)


if __name__ == "__main__":
    unittest.main()
