import unittest

from pactroom import errors

WORDED = ["NoThing", "NoNeed", "Waiting", "NoHouse", "Fallen", "Standing", "NoLetter", "NotBound"]
PLACED = ["NoText", "NoPlace", "NoWayBack", "NoFit"]


def refusal(name):
    return getattr(errors, name)


class RefusalsTest(unittest.TestCase):
    def test_the_common_base_is_a_value_error(self):
        self.assertTrue(issubclass(errors.PactError, ValueError))

    def test_each_stands_under_the_base(self):
        for name in WORDED + PLACED:
            self.assertTrue(issubclass(refusal(name), errors.PactError), name)
            self.assertTrue(issubclass(refusal(name), ValueError), name)

    def test_none_stands_under_another(self):
        for name in WORDED + PLACED:
            for other in WORDED + PLACED:
                if name != other:
                    self.assertFalse(issubclass(refusal(name), refusal(other)), (name, other))

    def test_the_base_stands_under_none_of_them(self):
        for name in WORDED + PLACED:
            self.assertFalse(issubclass(errors.PactError, refusal(name)), name)

    def test_each_is_made_of_words(self):
        for name in WORDED:
            with self.assertRaises(errors.PactError) as caught:
                raise refusal(name)("some words")
            self.assertEqual(str(caught.exception), "some words")

    def test_the_placed_ones_bear_at(self):
        for name in PLACED:
            for at in (-1, 0, 11):
                with self.assertRaises(refusal(name)) as caught:
                    raise refusal(name)(at)
                self.assertEqual(caught.exception.at, at)

    def test_each_error_has_its_own_at(self):
        for name in PLACED:
            first = refusal(name)(3)
            second = refusal(name)(4)
            self.assertEqual((first.at, second.at), (3, 4))


if __name__ == "__main__":
    unittest.main()
