import copy
import itertools
import unittest

from bores.steps import begin_of, end_of, is_chain, is_strict, spots_of, steps_of
from tests.plainly import begin_and_end, bore, is_the_askers_own, shown, turning_records
from tests.plainly import is_strict as is_strict_plainly
from tests.plainly import spots as spots_plainly

A = bore("a", 5, [2, 1, 3])
B = bore("b", 2, [2])
RECORDS = [("one", ("a", 0), ("b", 1)), A, ("over", ("b", 0), ("a", 5)), B, ("one", ("a", 4), ("a", 4))]
# Bores named like the words of steps and sayings.
WORDS = [bore("one", 3, [2]), bore("row", 2, [2, 2]), ("over", ("over", 1), ("one", 0)), bore("over", 1, [2])]
MANY = [
    turning_records(seed, bores, sayings)
    for seed in range(1, 40)
    for bores in ([], [[1]], [[2], [1, 2]], [[3, 2], [1], [2, 1, 1]])
    for sayings in (0, 1, 6)
    if bores or not sayings
]


class Spots(unittest.TestCase):
    def test_no_records(self):
        self.assertEqual(spots_of([]), [])

    def test_in_the_records_order_then_by_number(self):
        layers = [("a", number) for number in range(6)] + [("b", 0), ("b", 1)]
        self.assertEqual(spots_of([A, B]), layers)
        self.assertEqual(spots_of([B, A]), layers[6:] + layers[:6])
        self.assertEqual(spots_of(RECORDS), layers)

    def test_sayings_have_none(self):
        self.assertEqual(spots_of([("over", ("b", 0), ("b", 1)), B, ("one", ("b", 1), ("b", 1))]), [("b", 0), ("b", 1)])

    def test_bores_named_like_words(self):
        names = ["one"] * 2 + ["row"] * 4 + ["over"] * 2
        self.assertEqual(spots_of(WORDS), list(zip(names, [0, 1, 0, 1, 2, 3, 0, 1])))

    def test_more_than_ten_layers_by_number(self):
        self.assertEqual(spots_of([bore("c", 0, [6, 6])]), [("c", number) for number in range(12)])

    def test_twelve_bores_of_sixty_layers(self):
        bores = [bore("lkjihgfedcba"[number], number, [2, 3]) for number in range(12)]
        self.assertEqual(spots_of(bores), [(name, number) for name in "lkjihgfedcba" for number in range(5)])

    def test_many(self):
        for records in MANY:
            self.assertEqual(spots_of(records), spots_plainly(records))


class Steps(unittest.TestCase):
    def assert_steps(self, records, steps):
        self.assertEqual(sorted(steps_of(records), key=repr), sorted(steps, key=repr))

    def test_no_records(self):
        self.assertEqual(steps_of([]), [])

    def test_no_step_of_one_layer(self):
        self.assert_steps([bore("a", 0, [1])], [])
        self.assert_steps([bore("a", 0, [1, 1, 1])], [])

    def test_rows_end_at_faults(self):
        self.assert_steps([B], [("row", "b", 0)])
        self.assert_steps([A], [("row", "a", 0), ("row", "a", 3), ("row", "a", 4)])
        self.assert_steps([bore("a", 0, [1, 3, 1])], [("row", "a", 1), ("row", "a", 2)])

    def test_sayings_are_numbered_from_one(self):
        self.assert_steps(
            RECORDS,
            [
                ("one", 1, 0),
                ("one", 1, 1),
                ("row", "a", 0),
                ("row", "a", 3),
                ("row", "a", 4),
                ("over", 3),
                ("row", "b", 0),
                ("one", 5, 0),
                ("one", 5, 1),
            ],
        )

    def test_one_said_twice_has_steps_of_each(self):
        saying = ("one", ("b", 0), ("b", 1))
        self.assert_steps(
            [saying, B, saying], [("one", 1, 0), ("one", 1, 1), ("row", "b", 0), ("one", 3, 0), ("one", 3, 1)]
        )
        self.assert_steps([B] + [("over",) + saying[1:]] * 2, [("row", "b", 0), ("over", 2), ("over", 3)])

    def test_bores_named_like_words(self):
        self.assert_steps(
            WORDS, [("row", "one", 0), ("row", "row", 0), ("row", "row", 2), ("over", 3), ("row", "over", 0)]
        )

    def test_many(self):
        for records in MANY:
            told = steps_of(records)
            self.assert_steps(records, [step for number, step, begin, end in shown(records)])
            self.assertEqual(len(set(told)), len(told))


class BeginAndEnd(unittest.TestCase):
    def assert_ends(self, records, step, begin, end):
        self.assertEqual(begin_of(records, step), begin)
        self.assertEqual(end_of(records, step), end)

    def test_row(self):
        self.assert_ends(RECORDS, ("row", "a", 0), ("a", 0), ("a", 1))
        self.assert_ends(RECORDS, ("row", "a", 4), ("a", 4), ("a", 5))
        self.assert_ends(RECORDS, ("row", "b", 0), ("b", 0), ("b", 1))

    def test_over(self):
        self.assert_ends(RECORDS, ("over", 3), ("b", 0), ("a", 5))

    def test_one_forth_and_back(self):
        self.assert_ends(RECORDS, ("one", 1, 0), ("a", 0), ("b", 1))
        self.assert_ends(RECORDS, ("one", 1, 1), ("b", 1), ("a", 0))

    def test_of_a_layer_and_itself(self):
        self.assert_ends(RECORDS, ("one", 5, 0), ("a", 4), ("a", 4))
        self.assert_ends(RECORDS, ("one", 5, 1), ("a", 4), ("a", 4))
        self.assert_ends([("over", ("b", 1), ("b", 1)), B], ("over", 1), ("b", 1), ("b", 1))

    def test_bores_named_like_words(self):
        self.assert_ends(WORDS, ("row", "one", 0), ("one", 0), ("one", 1))
        self.assert_ends(WORDS, ("row", "row", 2), ("row", 2), ("row", 3))
        self.assert_ends(WORDS, ("row", "over", 0), ("over", 0), ("over", 1))
        self.assert_ends(WORDS, ("over", 3), ("over", 1), ("one", 0))

    def test_many(self):
        for records in MANY:
            for number, step, begin, end in shown(records):
                self.assert_ends(records, step, begin, end)


class Chains(unittest.TestCase):
    def test_of_no_step(self):
        self.assertIs(is_chain([], []), False)
        self.assertIs(is_chain(RECORDS, []), False)

    def test_of_one_step(self):
        for step in steps_of(RECORDS):
            self.assertIs(is_chain(RECORDS, [step]), True)

    def test_of_several(self):
        self.assertIs(is_chain(RECORDS, [("row", "a", 3), ("row", "a", 4)]), True)
        self.assertIs(is_chain(RECORDS, [("row", "b", 0), ("one", 1, 1), ("row", "a", 0)]), True)
        self.assertIs(is_chain(RECORDS, [("one", 1, 0), ("one", 1, 1)] * 3), True)
        self.assertIs(is_chain(RECORDS, [("one", 5, 1), ("one", 5, 1), ("one", 5, 0)]), True)

    def test_broken(self):
        self.assertIs(is_chain(RECORDS, [("row", "a", 4), ("row", "a", 3)]), False)
        self.assertIs(is_chain(RECORDS, [("row", "a", 0), ("row", "a", 3)]), False)
        self.assertIs(is_chain(RECORDS, [("row", "b", 0), ("one", 1, 0)]), False)
        self.assertIs(is_chain(RECORDS, [("one", 1, 0), ("one", 1, 0)]), False)
        self.assertIs(is_chain(RECORDS, [("row", "a", 3), ("row", "a", 3)]), False)

    def test_broken_at_each_joint(self):
        good = [("row", "b", 0), ("one", 1, 1), ("one", 1, 0), ("one", 1, 1), ("row", "a", 0)]
        self.assertIs(is_chain(RECORDS, good), True)
        for place in range(len(good)):
            for other in (("over", 3), ("row", "a", 4)):
                self.assertIs(is_chain(RECORDS, good[:place] + [other] + good[place + 1:]), False)

    def test_that_ends_where_it_begins(self):
        records = [B, ("over", ("b", 1), ("b", 0)), ("over", ("b", 0), ("b", 0))]
        self.assertIs(is_chain(records, [("row", "b", 0), ("over", 2)]), True)
        self.assertIs(is_chain(records, [("over", 3)] * 2), True)

    def test_four_hundred_steps(self):
        steps = [("one", 1, 0), ("one", 1, 1)] * 200
        self.assertIs(is_chain(RECORDS, steps), True)
        self.assertIs(is_chain(RECORDS, steps[:398] + [("over", 3)]), False)

    def test_all_short_lists_of_steps(self):
        found = 0
        for records in (RECORDS, WORDS, MANY[-1], MANY[-5]):
            steps = [each[1] for each in shown(records)][:9]
            for count in range(4):
                for row in itertools.product(steps, repeat=count):
                    is_one = begin_and_end(records, list(row)) is not None
                    self.assertIs(is_chain(records, list(row)), is_one)
                    found += is_one
        self.assertGreater(found, 50)


class StrictOnes(unittest.TestCase):
    def test_of_no_step(self):
        self.assertIs(is_strict([]), False)

    def test_of_one_step(self):
        self.assertIs(is_strict([("row", "a", 0)]), True)
        self.assertIs(is_strict([("over", 3)]), True)
        self.assertIs(is_strict([("one", 1, 0)]), False)
        self.assertIs(is_strict([("one", 1, 1)]), False)

    def test_names_say_nothing(self):
        self.assertIs(is_strict([("row", "one", 0)]), True)
        self.assertIs(is_strict([("row", "row", 1)]), True)

    def test_of_several(self):
        ones = [("one", 1, 0), ("one", 1, 1), ("one", 5, 0)]
        self.assertIs(is_strict(ones), False)
        for step in (("row", "a", 0), ("over", 3)):
            for place in range(4):
                self.assertIs(is_strict(ones[:place] + [step] + ones[place:]), True)
        self.assertIs(is_strict([("row", "a", 3), ("row", "a", 4)]), True)
        self.assertIs(is_strict([("one", 1, 0), ("one", 1, 1)] * 200), False)

    def test_many(self):
        for records in MANY:
            steps = [each[1] for each in shown(records)]
            for place in range(len(steps) + 1):
                self.assertIs(is_strict(steps[place:]), is_strict_plainly(steps[place:]))


class ListsToldAndHandedIn(unittest.TestCase):
    def test_told_lists_are_the_askers_own(self):
        for records in (RECORDS, []):
            self.assertTrue(is_the_askers_own(lambda: spots_of(records)))
            self.assertTrue(is_the_askers_own(lambda: steps_of(records)))

    def test_what_is_handed_in_stays_as_it_was(self):
        records = copy.deepcopy(RECORDS)
        steps = steps_of(records=records)
        kept = copy.deepcopy(steps)
        spots_of(records=records)
        is_chain(records=records, steps=steps)
        is_strict(steps=steps)
        for step in kept:
            begin_of(records=records, step=step)
            end_of(records=records, step=step)
        self.assertEqual((records, steps), (RECORDS, kept))

    def test_kinds(self):
        for told in (spots_of(RECORDS), steps_of(RECORDS)):
            self.assertIs(type(told), list)
            self.assertEqual({type(thing) for thing in told}, {tuple})
        for step in steps_of(RECORDS):
            self.assertEqual([type(spot) for spot in (begin_of(RECORDS, step), end_of(RECORDS, step))], [tuple] * 2)


if __name__ == "__main__":
    unittest.main()
