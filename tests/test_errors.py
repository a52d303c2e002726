"""The refusals of crystalwords.errors."""

import unittest

from crystalwords import errors

REFUSALS = (
    "NoPlace", "NoDeed", "NoNumber", "NoText", "TooMany", "NoChange", "NotKept", "NoForm",
    "NotWithin", "NotLeast", "NoDrawing", "OffSheet", "NoSheet", "NoRow", "NoName",
)


def refusal(name):
    return getattr(errors, name)


class Standing(unittest.TestCase):
    def test_crystal_error_stands_under_value_error(self):
        self.assertTrue(issubclass(errors.CrystalError, ValueError))
        self.assertIsNot(errors.CrystalError, ValueError)

    def test_each_refusal_stands_under_crystal_error(self):
        self.assertEqual(len(REFUSALS), 15)
        for name in REFUSALS:
            with self.subTest(name=name):
                self.assertTrue(issubclass(refusal(name), errors.CrystalError))
                self.assertTrue(issubclass(refusal(name), ValueError))
                self.assertIsNot(refusal(name), errors.CrystalError)
                self.assertEqual(refusal(name).__name__, name)

    def test_no_refusal_stands_under_another_one(self):
        for one in REFUSALS:
            for other in REFUSALS:
                with self.subTest(one=one, other=other):
                    self.assertEqual(issubclass(refusal(one), refusal(other)), one == other)


class Made(unittest.TestCase):
    def test_the_others_are_made_of_a_text(self):
        for name in REFUSALS:
            if name == "TooMany":
                continue
            with self.subTest(name=name):
                with self.assertRaises(refusal(name)) as caught:
                    raise refusal(name)("told so")
                self.assertEqual(str(caught.exception), "told so")

    def test_crystal_error_is_made_of_a_text(self):
        self.assertEqual(str(errors.CrystalError("told so")), "told so")

    def test_too_many_has_its_list_as_apart(self):
        for apart in ([], [[]], [[], [0], [0, 1]], [[0] * 200, [1] * 199]):
            with self.subTest(apart=apart):
                with self.assertRaises(errors.CrystalError) as caught:
                    raise errors.TooMany(apart)
                self.assertEqual(caught.exception.apart, apart)
                self.assertIs(type(caught.exception.apart), list)
                self.assertIs(type(str(caught.exception)), str)

    def test_apart_may_be_handed_in_as_a_tuple(self):
        self.assertEqual(errors.TooMany(((), (0,), [1])).apart, [[], [0], [1]])

    def test_too_many_leaves_and_keeps_none_of_the_lists_handed_in(self):
        apart = [[], [0]]
        made = errors.TooMany(apart)
        self.assertEqual(apart, [[], [0]])
        apart[1].append(7)
        apart.append([1])
        self.assertEqual(made.apart, [[], [0]])
        made.apart.append([2])
        made.apart[0].append(5)
        self.assertEqual(apart, [[], [0, 7], [1]])

    def test_each_too_many_has_an_apart_of_its_own(self):
        apart = [[0]]
        one = errors.TooMany(apart)
        other = errors.TooMany(apart)
        one.apart[0].append(1)
        self.assertEqual(other.apart, [[0]])

    def test_no_list_stands_at_two_places_of_apart(self):
        word = [0]
        made = errors.TooMany([word, word])
        made.apart[0].append(1)
        self.assertEqual(made.apart, [[0, 1], [0]])


if __name__ == "__main__":
    unittest.main()
