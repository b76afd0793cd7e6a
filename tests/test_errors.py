import unittest

from bores.errors import BoreError, Clash, NoText, Twice, Unfit, Unknown

MADE_OF_A_TEXT = (NoText, Unfit, Unknown, Twice)
REFUSALS = MADE_OF_A_TEXT + (Clash,)


class Classes(unittest.TestCase):
    def test_base_stands_under_value_error(self):
        self.assertTrue(issubclass(BoreError, ValueError))

    def test_each_refusal_stands_under_the_base(self):
        for refusal in REFUSALS:
            self.assertTrue(issubclass(refusal, BoreError), refusal)
            self.assertTrue(issubclass(refusal, ValueError), refusal)
            self.assertFalse(issubclass(BoreError, refusal), refusal)

    def test_no_refusal_stands_under_another(self):
        for one in REFUSALS:
            for other in REFUSALS:
                self.assertEqual(issubclass(one, other), one is other, (one, other))

    def test_made_of_a_text(self):
        for refusal in (BoreError,) + MADE_OF_A_TEXT:
            with self.assertRaises(BoreError) as caught:
                raise refusal("some words")
            self.assertIs(type(caught.exception), refusal)
            self.assertEqual(str(caught.exception), "some words")


class Clashes(unittest.TestCase):
    def test_has_both_fields(self):
        clash = Clash([1, 3], [("row", "a", 0), ("over", 3)])
        self.assertEqual(clash.numbers, [1, 3])
        self.assertEqual(clash.ring, [("row", "a", 0), ("over", 3)])
        self.assertIs(type(clash.numbers), list)
        self.assertIs(type(clash.ring), list)

    def test_fields_by_their_names(self):
        clash = Clash(ring=[("over", 2)], numbers=[2])
        self.assertEqual((clash.numbers, clash.ring), ([2], [("over", 2)]))

    def test_is_raised_and_taken_as_the_base(self):
        with self.assertRaises(BoreError) as caught:
            raise Clash([2], [("over", 2)])
        self.assertEqual(caught.exception.numbers, [2])

    def test_lists_handed_in_and_fields_are_apart(self):
        numbers = [1, 3]
        ring = [("row", "a", 0), ("over", 3)]
        clash = Clash(numbers, ring)
        other = Clash(numbers, ring)
        numbers.append(9)
        ring.clear()
        self.assertEqual(clash.numbers, [1, 3])
        self.assertEqual(clash.ring, [("row", "a", 0), ("over", 3)])
        clash.numbers.append(7)
        clash.ring.append(("over", 7))
        self.assertEqual((numbers, ring), ([1, 3, 9], []))
        self.assertEqual(other.numbers, [1, 3])
        self.assertEqual(other.ring, [("row", "a", 0), ("over", 3)])


if __name__ == "__main__":
    unittest.main()
