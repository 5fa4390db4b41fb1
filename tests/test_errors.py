"""[4]: the errors, with what [2] says of them."""

import unittest

from lapseseats import errors
from lapseseats.days import Day
from lapseseats.rules import Rule

ATTRIBUTES = {
    "InvalidRule": "word",
    "InvalidDay": "at",
    "InvalidText": "at",
    "InvalidFault": None,
    "InvalidLog": "at",
    "InvalidCommand": None,
    "Refused": "at",
}

KEPT = (
    True,
    None,
    -3,
    10 ** 40,
    "a word",
    [1, [2, None]],
    (1, [2]),
    Rule(1, 2, 3, 4, 5),
    Day([("borrow", 0)]),
)


def with_attribute():
    for name, attribute in ATTRIBUTES.items():
        if attribute is not None:
            yield getattr(errors, name), attribute


class ErrorsTest(unittest.TestCase):
    def test_seat_error_is_a_value_error(self):
        self.assertEqual(errors.SeatError.__bases__, (ValueError,))

    def test_the_others_are_direct_subclasses_of_it_alone(self):
        for name in ATTRIBUTES:
            self.assertEqual(getattr(errors, name).__bases__, (errors.SeatError,), name)

    def test_all_are_defined_in_the_module(self):
        for name in ("SeatError", *ATTRIBUTES):
            self.assertEqual(getattr(errors, name).__module__, "lapseseats.errors")

    def test_none_is_caught_as_another_one(self):
        for name in ATTRIBUTES:
            for other in ATTRIBUTES:
                self.assertEqual(issubclass(getattr(errors, name), getattr(errors, other)), name == other)

    def test_attributes_by_position(self):
        for made, attribute in with_attribute():
            for value in KEPT:
                self.assertIs(getattr(made(value), attribute), value)

    def test_attributes_by_name(self):
        for made, attribute in with_attribute():
            for value in KEPT:
                self.assertIs(getattr(made(**{attribute: value}), attribute), value)

    def test_an_error_keeps_the_argument_itself(self):
        for made, attribute in with_attribute():
            value = [1]
            error = made(value)
            value.append(2)
            self.assertEqual(getattr(error, attribute), [1, 2])

    def test_two_errors_keep_what_each_was_given(self):
        for made, attribute in with_attribute():
            one, other = made(1), made(2)
            self.assertEqual((getattr(one, attribute), getattr(other, attribute)), (1, 2))

    def test_the_argument_is_needed(self):
        for made, _ in with_attribute():
            with self.assertRaises(TypeError):
                made()

    def test_those_without_arguments(self):
        for made in (errors.InvalidFault, errors.InvalidCommand):
            self.assertIsInstance(made(), errors.SeatError)
            with self.assertRaises(TypeError):
                made(1)

    def test_they_can_be_raised_and_caught(self):
        for name, attribute in ATTRIBUTES.items():
            made = getattr(errors, name)
            with self.assertRaises(errors.SeatError) as caught:
                raise made() if attribute is None else made(3)
            self.assertIs(type(caught.exception), made)

    def test_they_are_not_iterable(self):
        for made, _ in with_attribute():
            with self.assertRaises(TypeError):
                iter(made([1]))


if __name__ == "__main__":
    unittest.main()
