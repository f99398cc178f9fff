import unittest

from afterwise import errors

WITH_THING = (
    "BadAsks", "BadRow", "BadAsk", "BadState", "BadStates", "BadPrice", "BadCourse", "BadKind", "BadFactors",
    "BadCounts", "BadTimes", "BadView", "BadSight", "BadMany", "BadAmount", "BadBook", "BadTitle",
)
WITH_NUMBER = ("BadMachine", "BadGate", "BadHand", "BadDeed")
OTHERS = {
    "WrongThing": ("thing",),
    "WrongItem": ("number",),
    "BadStore": ("part",),
    "Unlike": ("word",),
    "TooMany": ("word",),
    "Below": (),
    "NotHindsight": ("one", "other"),
    "TooFew": ("number",),
    "NothingWanted": (),
    "BadLine": ("line", "word"),
    "Twice": ("title",),
    "Unknown": ("title",),
    "NoDeed": ("word",),
}


class ErrorTests(unittest.TestCase):
    def check(self, name, base, attributes):
        error = getattr(errors, name)
        self.assertEqual(error.__bases__, (base,))
        told = [object() for _ in attributes]
        for made in (error(*told), error(**dict(zip(attributes, told)))):
            self.assertEqual(vars(made), dict(zip(attributes, told)))
        with self.assertRaises(TypeError):
            error(*told, 1)

    def test_top(self):
        self.assertEqual(errors.AfterError.__bases__, (ValueError,))

    def test_errors_with_a_thing(self):
        for name in WITH_THING:
            self.check(name, errors.WrongThing, ("thing",))

    def test_errors_with_a_number(self):
        for name in WITH_NUMBER:
            self.check(name, errors.WrongItem, ("number",))

    def test_errors_directly_under_the_top(self):
        for name in OTHERS:
            if name not in ("Below", "NothingWanted"):
                self.check(name, errors.AfterError, OTHERS[name])
        for error in (errors.Below, errors.NothingWanted):
            self.assertEqual(error.__bases__, (errors.AfterError,))
            self.assertEqual(vars(error()), {})

    def test_there_are_no_other_errors(self):
        told = {name for name, value in vars(errors).items() if isinstance(value, type)}
        self.assertEqual(told, {"AfterError", *WITH_THING, *WITH_NUMBER, *OTHERS})


if __name__ == "__main__":
    unittest.main()
