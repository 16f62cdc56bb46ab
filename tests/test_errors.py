import copy
import inspect
import unittest

from anydraws import errors

WITH_GIVEN = [
    "InvalidFraction", "InvalidNumber", "InvalidIndex", "InvalidShare", "InvalidWish", "InvalidStretch",
    "InvalidWord", "InvalidStair",
]
WITH_INDEX = [
    "InvalidSaying", "InvalidShares", "InvalidBox", "InvalidBand", "InvalidClaims", "InvalidGroups",
    "InvalidScores", "InvalidRows", "InvalidRules", "InvalidRow", "InvalidWords", "InvalidValues",
]
BARE = ["TooMany", "NotApart"]


def kept_things():
    deep = ()
    for _ in range(13):
        deep = (deep,)
    return [
        None, 0, 7, -1, True, False, "", "word", b"x", (), (1, 2), [], [1, [2]], {}, {"a": (1,)}, {1, 2}, object(),
        int, len, 10 ** 399, -10 ** 399, deep, ValueError("x"), lambda: 1,
    ]


class Classes(unittest.TestCase):
    def test_that_the_module_has_just_these_classes(self):
        found = [name for name, value in vars(errors).items() if inspect.isclass(value)]
        self.assertEqual(sorted(found), sorted(["DrawError"] + WITH_GIVEN + WITH_INDEX + BARE))
        for name in found:
            self.assertEqual(getattr(errors, name).__module__, "anydraws.errors")
            self.assertEqual(getattr(errors, name).__name__, name)

    def test_that_the_base_stands_under_value_error_alone(self):
        self.assertEqual(errors.DrawError.__mro__, (errors.DrawError,) + ValueError.__mro__)

    def test_that_each_other_class_stands_under_the_base_alone(self):
        for name in WITH_GIVEN + WITH_INDEX + BARE:
            made = getattr(errors, name)
            with self.subTest(name):
                self.assertEqual(made.__mro__, (made,) + errors.DrawError.__mro__)

    def test_that_no_class_stands_under_another_one(self):
        names = WITH_GIVEN + WITH_INDEX + BARE
        for name in names:
            for other in names:
                under = issubclass(getattr(errors, name), getattr(errors, other))
                self.assertEqual(under, name == other, (name, other))

    def test_that_what_keeps_something_has_its_own_init(self):
        for name in WITH_GIVEN + WITH_INDEX:
            self.assertIn("__init__", vars(getattr(errors, name)), name)


class Attributes(unittest.TestCase):
    def each(self):
        for names, attribute in ((WITH_GIVEN, "given"), (WITH_INDEX, "index")):
            for name in names:
                yield getattr(errors, name), attribute

    def test_that_it_is_kept_by_position(self):
        for made, attribute in self.each():
            for thing in kept_things():
                self.assertIs(getattr(made(thing), attribute), thing)

    def test_that_it_is_kept_by_name(self):
        for made, attribute in self.each():
            for thing in kept_things():
                self.assertIs(getattr(made(**{attribute: thing}), attribute), thing)

    def test_that_nothing_else_is_kept(self):
        for made, attribute in self.each():
            self.assertEqual(vars(made(5)), {attribute: 5})

    def test_that_two_of_a_class_stand_beside_one_another(self):
        for made, attribute in self.each():
            first, second, third = made("a"), made(**{attribute: ["b"]}), made(None)
            self.assertEqual(getattr(first, attribute), "a")
            self.assertEqual(getattr(second, attribute), ["b"])
            self.assertIsNone(getattr(third, attribute))

    def test_that_all_classes_stand_beside_one_another(self):
        made = [(kind(k), attribute, k) for k, (kind, attribute) in enumerate(self.each())]
        for error, attribute, k in made:
            self.assertEqual(getattr(error, attribute), k)

    def test_that_a_copy_keeps_it(self):
        for made, attribute in self.each():
            for error in (made((1, [2])), made(**{attribute: (1, [2])})):
                self.assertEqual(getattr(copy.copy(error), attribute), (1, [2]))

    def test_that_it_is_not_made_without_or_by_another_name(self):
        for made, attribute in self.each():
            other = "index" if attribute == "given" else "given"
            self.assertRaises(TypeError, made)
            self.assertRaises(TypeError, made, 1, 2)
            self.assertRaises(TypeError, lambda made=made, other=other: made(**{other: 1}))

    def test_that_it_is_caught_by_its_class_the_base_and_value_error(self):
        for made, attribute in self.each():
            for kind in (made, errors.DrawError, ValueError, Exception):
                with self.assertRaises(kind) as caught:
                    raise made("x")
                self.assertEqual(getattr(caught.exception, attribute), "x")

    def test_that_a_number_of_any_size_can_be_shown(self):
        for made, _ in self.each():
            self.assertIsInstance(str(made(10 ** 9000)), str)


class Bare(unittest.TestCase):
    def test_that_they_are_made_of_nothing(self):
        for name in BARE + ["DrawError"]:
            made = getattr(errors, name)
            self.assertEqual(vars(made()), {})
            with self.assertRaises(made):
                raise made()
            self.assertIsInstance(made(), errors.DrawError)
            for attribute in ("given", "index"):
                self.assertFalse(hasattr(made(), attribute))
