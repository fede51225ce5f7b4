import unittest

from webtimes import errors
from webtimes.errors import (
    Apart, NoBook, NoDeed, NoDivisor, NoLine, NoName, NoNaming, NoPlace, NoSum, NoText, NoWeb, NoWebs, TooBig, WebError,
)

OF_TEXT = [Apart, NoPlace, TooBig, NoNaming, NoSum, NoBook, NoDeed, NoLine]
UNDER_WEB_ERROR = [NoWeb, NoWebs, NoText] + OF_TEXT


class TheClasses(unittest.TestCase):
    def test_web_error_is_a_value_error_made_of_a_text(self):
        self.assertEqual(WebError.__bases__, (ValueError,))
        self.assertIsInstance(WebError("why"), ValueError)

    def test_eleven_stand_under_web_error_alone(self):
        self.assertEqual(len(UNDER_WEB_ERROR), 11)
        for kind in UNDER_WEB_ERROR:
            self.assertEqual(kind.__bases__, (WebError,), kind)

    def test_none_stands_under_another(self):
        every = UNDER_WEB_ERROR + [NoName, NoDivisor]
        for one in every:
            self.assertEqual([other for other in every if issubclass(one, other)], [one])

    def test_two_stand_apart(self):
        self.assertEqual(NoName.__bases__, (LookupError,))
        self.assertEqual(NoDivisor.__bases__, (ZeroDivisionError,))
        for kind in (NoName, NoDivisor):
            self.assertFalse(issubclass(kind, WebError))
            self.assertFalse(issubclass(kind, ValueError))

    def test_each_is_defined_here(self):
        for kind in UNDER_WEB_ERROR + [WebError, NoName, NoDivisor]:
            self.assertEqual(kind.__module__, "webtimes.errors")
            self.assertIs(getattr(errors, kind.__name__), kind)


class WhatTheyAreMadeOf(unittest.TestCase):
    def test_no_web(self):
        for part, number in (("web", None), ("places", None), ("ties", None), ("ties", 0), ("ties", 119)):
            error = NoWeb(part, number)
            self.assertEqual((error.part, error.number), (part, number))
        error = NoWeb(number=3, part="ties")
        self.assertEqual((error.part, error.number), ("ties", 3))

    def test_no_webs(self):
        for number in (None, 0, 11):
            self.assertEqual(NoWebs(number).number, number)
        self.assertEqual(NoWebs(number=2).number, 2)

    def test_no_text(self):
        for part in (0, 12):
            self.assertEqual(NoText(part).part, part)
        self.assertEqual(NoText(part=4).part, 4)

    def test_no_name(self):
        for name in ("", "web"):
            self.assertEqual(NoName(name).name, name)
        self.assertEqual(NoName(name="abc").name, "abc")

    def test_the_others_are_made_of_a_text(self):
        for kind in OF_TEXT + [WebError, NoDivisor]:
            self.assertEqual(str(kind("some words")), "some words")

    def test_raised_and_caught(self):
        for error in (NoWeb("web", None), NoWebs(None), NoText(0), *[kind("x") for kind in OF_TEXT]):
            with self.assertRaises(WebError) as held:
                raise error
            self.assertIs(held.exception, error)
            self.assertIsInstance(str(error), str)
        with self.assertRaises(LookupError):
            raise NoName("x")
        with self.assertRaises(ZeroDivisionError):
            raise NoDivisor("x")


if __name__ == "__main__":
    unittest.main()
