import copy
import itertools
import time
import unittest

from bores.fields import points_of
from bores.likening import liken, table, worth

GREATEST = 10 ** 60 - 1
NAMES = tuple([one + other for one in "abcde" for other in "fghi"])

# Likes over the marks a, b, c: none, of other marks alone, either way about, of a mark with itself.
LIKES = (
    (),
    (("d", "e", 9),),
    (("a", "b", 1),),
    (("b", "a", 3),),
    (("a", "a", 2),),
    (("c", "a", 9), ("b", "b", 5)),
    (("a", "b", 2), ("b", "c", 3), ("c", "c", 4), ("d", "a", 9)),
    (("a", "b", 1), ("a", "c", 1), ("c", "b", 1)),
    (("b", "a", 2), ("a", "a", 1), ("b", "b", 1), ("c", "c", 2)),
)


def all_rising(count, other):
    told = []
    for size in range(min(count, other) + 1):
        for ones in itertools.combinations(range(count), size):
            for others in itertools.combinations(range(other), size):
                told.append(list(zip(ones, others)))
    return told


def points_told(likes, mark, other):
    told = {frozenset((one, another)): points for one, another, points in likes}
    return told.get(frozenset((mark, other)), 1 if mark == other else 0)


def all_worths(likes, row, other):
    # For each list of pairs of 15 its worth, every one tried out.
    told = []
    for pairs in all_rising(len(row), len(other)):
        points = [points_told(likes, row[one], other[another]) for one, another in pairs]
        if 0 not in points:
            told.append((pairs, sum(points)))
    return told


def greatest_from(worths, place, behind):
    return max([points for pairs, points in worths if all([one >= place and other >= behind for one, other in pairs])])


def rows_up_to(length, marks):
    return [list(row) for count in range(length + 1) for row in itertools.product(marks, repeat=count)]


def turning_row(length, marks, seed):
    # A row without a plain pattern, and the same one each time.
    row = []
    for number in range(length):
        seed = (seed * 1103515245 + 12345) % 2 ** 31
        row.append(marks[(seed >> 16) % len(marks)])
    return row


SHORT_ROWS = rows_up_to(3, "ab") + [list("abc"), list("cab"), list("ccb"), list("bca"), list("cc"), list("c")]
LONGER_ROWS = [turning_row(length, "abc", seed) for length in (4, 5) for seed in range(1, 5)]
ASKED = [(likes, row, other) for likes in LIKES for row in SHORT_ROWS for other in SHORT_ROWS]
ASKED += [(likes, row, other) for likes in LIKES for row in LONGER_ROWS for other in LONGER_ROWS]


class Worth(unittest.TestCase):
    def setUp(self):
        self.likes = (("sand", "silt", 5), ("clay", "clay", 3))
        self.row = ["sand", "clay", "marl", "silt"]
        self.other = ["silt", "marl", "clay", "marl", "sand"]

    def told(self, pairs):
        return worth(self.likes, self.row, self.other, pairs)

    def test_of_no_pairs(self):
        self.assertEqual(self.told([]), 0)
        self.assertEqual(worth((), [], [], []), 0)
        self.assertEqual(worth((), ["a"], [], []), 0)

    def test_of_pairs_that_rise(self):
        self.assertEqual(self.told([(0, 0)]), 5)
        self.assertEqual(self.told([(0, 4)]), 1)
        self.assertEqual(self.told([(1, 2)]), 3)
        self.assertEqual(self.told([(3, 4)]), 5)
        self.assertEqual(self.told([(0, 0), (1, 2), (2, 3), (3, 4)]), 14)
        self.assertEqual(self.told([(0, 0), (2, 1)]), 6)

    def test_none_where_they_fall_or_stay(self):
        for pairs in (
            [(1, 2), (0, 0)],
            [(0, 0), (0, 4)],
            [(0, 0), (3, 0)],
            [(0, 0), (0, 0)],
            [(0, 4), (1, 2)],
            [(3, 0), (3, 4)],
            [(1, 2), (2, 1)],
            [(0, 0), (1, 2), (2, 1), (3, 4)],
            [(0, 0), (2, 3), (2, 3)],
            [(2, 1), (2, 3)],
        ):
            self.assertIsNone(self.told(pairs), pairs)

    def test_none_outside_a_row(self):
        for pairs in (
            [(-1, 0)],
            [(0, -1)],
            [(-4, 0)],
            [(0, -5)],
            [(-1, -1)],
            [(4, 4)],
            [(3, 5)],
            [(0, 0), (4, 5)],
            [(-4, 0), (1, 2)],
            [(-1, 0), (3, 4)],
            [(0, -1), (3, 4)],
            [(GREATEST, 0)],
            [(0, GREATEST)],
            [(-GREATEST, -GREATEST)],
        ):
            self.assertIsNone(self.told(pairs), pairs)

    def test_none_of_rows_without_marks(self):
        for row, other in (([], []), (["a"], []), ([], ["a"])):
            self.assertIsNone(worth((), row, other, [(0, 0)]))
            self.assertIsNone(worth((), row, other, [(-1, -1)]))

    def test_none_of_marks_without_points(self):
        for pairs in ([(0, 1)], [(1, 0)], [(2, 0)], [(0, 0), (1, 1)], [(0, 0), (1, 1), (2, 3)], [(0, 0), (2, 4)]):
            self.assertIsNone(self.told(pairs), pairs)

    def test_every_pair_of_numbers_about_two_rows(self):
        likes, row, other = (("a", "b", 4),), ["a", "b", "c"], ["c", "a"]
        told = dict([(tuple(pairs), points) for pairs, points in all_worths(likes, row, other)])
        places = list(itertools.product(range(-3, 5), repeat=2))
        for size in range(3):
            for pairs in itertools.product(places, repeat=size):
                self.assertEqual(worth(likes, row, other, list(pairs)), told.get(pairs), pairs)

    def test_of_all_pairs_of_short_rows(self):
        for likes, row, other in ASKED[::5]:
            told = dict([(tuple(pairs), points) for pairs, points in all_worths(likes, row, other)])
            for pairs in all_rising(len(row), len(other)):
                self.assertEqual(worth(likes, row, other, pairs), told.get(tuple(pairs)))

    def test_of_many_pairs(self):
        row = ["a"] * 60
        pairs = [(number, number) for number in range(60)]
        self.assertEqual(worth((("a", "a", 9),), row, row, pairs), 540)
        self.assertIsNone(worth((), row, row, pairs + [(60, 60)]))
        self.assertIsNone(worth((), row, row, [(number, 0) for number in range(400)]))

    def test_kinds(self):
        for pairs in ([], [(0, 0)]):
            self.assertIs(type(self.told(pairs)), int)


class Table(unittest.TestCase):
    def test_rows_of_no_marks(self):
        self.assertEqual(table((), [], []), [[0]])
        self.assertEqual(table((), [], ["a", "b"]), [[0, 0, 0]])
        self.assertEqual(table((), ["a", "b"], []), [[0], [0], [0]])

    def test_rows_of_one_mark(self):
        self.assertEqual(table((), ["a"], ["a"]), [[1, 0], [0, 0]])
        self.assertEqual(table((), ["a"], ["b"]), [[0, 0], [0, 0]])
        for likes in ((("a", "b", 7),), (("b", "a", 7),)):
            self.assertEqual(table(likes, ["a"], ["b"]), [[7, 0], [0, 0]])
            self.assertEqual(table(likes, ["b"], ["a"]), [[7, 0], [0, 0]])
        self.assertEqual(table((("a", "a", 4),), ["a"], ["a"]), [[4, 0], [0, 0]])

    def test_rows_of_several(self):
        self.assertEqual(
            table((), ["a", "b", "a"], ["b", "a"]),
            [[2, 1, 0], [2, 1, 0], [1, 1, 0], [0, 0, 0]],
        )
        self.assertEqual(
            table((("a", "b", 3),), ["a", "b"], ["b", "a", "b"]),
            [[6, 3, 3, 0], [3, 3, 1, 0], [0, 0, 0, 0]],
        )

    def test_each_number_against_all_pairs(self):
        for likes, row, other in ASKED:
            told = table(likes, row, other)
            worths = all_worths(likes, row, other)
            self.assertEqual(len(told), len(row) + 1)
            for place, numbers in enumerate(told):
                greatest = [greatest_from(worths, place, behind) for behind in range(len(other) + 1)]
                self.assertEqual(numbers, greatest, (likes, row, other, place))

    def test_ends_of_nought(self):
        for likes, row, other in ASKED:
            told = table(likes, row, other)
            self.assertEqual([numbers[-1] for numbers in told], [0] * (len(row) + 1))
            self.assertEqual(told[-1], [0] * (len(other) + 1))

    def test_kinds(self):
        for likes, row, other in ASKED[::7]:
            told = table(likes, row, other)
            self.assertIs(type(told), list)
            self.assertEqual({type(numbers) for numbers in told}, {list})
            self.assertEqual({type(number) for numbers in told for number in numbers}, {int})


class Likening(unittest.TestCase):
    def test_rows_of_no_marks_and_of_one(self):
        self.assertEqual(liken((), [], []), [])
        self.assertEqual(liken((), ["a"], []), [])
        self.assertEqual(liken((), [], ["a"]), [])
        self.assertEqual(liken((), ["a"], ["a"]), [(0, 0)])
        self.assertEqual(liken((), ["a"], ["b"]), [])
        self.assertEqual(liken((("b", "a", 1),), ["a"], ["b"]), [(0, 0)])

    def test_the_first_of_several(self):
        self.assertEqual(liken((), ["a", "a"], ["a"]), [(0, 0)])
        self.assertEqual(liken((), ["a"], ["a", "a"]), [(0, 0)])
        self.assertEqual(liken((), ["a", "b"], ["b", "a"]), [(0, 1)])
        self.assertEqual(liken((), ["a", "b", "a"], ["b", "a", "b"]), [(0, 1), (1, 2)])
        self.assertEqual(liken((), ["b", "a", "a"], ["a", "a", "b"]), [(1, 0), (2, 1)])

    def test_many_of_few_points_or_few_of_many(self):
        # One pair of 3 and three pairs of 1 are worth as much: the list that begins with the lesser pair is told.
        likes = (("z", "y", 3),)
        self.assertEqual(liken(likes, ["a", "b", "c", "z"], ["y", "a", "b", "c"]), [(0, 1), (1, 2), (2, 3)])
        self.assertEqual(liken(likes, ["z", "a", "b", "c"], ["a", "b", "c", "y"]), [(0, 3)])
        self.assertEqual(liken((("z", "y", 4),), ["a", "b", "c", "z"], ["y", "a", "b", "c"]), [(3, 0)])
        self.assertEqual(liken((("z", "y", 2),), ["z", "a", "b", "c"], ["a", "b", "c", "y"]), [(1, 0), (2, 1), (3, 2)])

    def test_a_mark_is_left_out_for_greater_worth(self):
        likes = (("a", "b", 9),)
        self.assertEqual(liken(likes, ["a", "a"], ["a", "b"]), [(0, 0), (1, 1)])
        self.assertEqual(liken(likes, ["a"], ["a", "b"]), [(0, 1)])
        self.assertEqual(liken((("a", "a", 2), ("a", "b", 9)), ["b", "a"], ["a", "a"]), [(0, 0), (1, 1)])
        self.assertEqual(liken(likes, ["a", "b"], ["b", "a"]), [(0, 0), (1, 1)])

    def test_against_all_pairs_of_short_rows(self):
        for likes, row, other in ASKED:
            worths = all_worths(likes, row, other)
            greatest = max([points for pairs, points in worths])
            first = min([pairs for pairs, points in worths if points == greatest])
            self.assertEqual(liken(likes, row, other), first, (likes, row, other))

    def test_worth_as_much_as_the_table_tells(self):
        for likes, row, other in ASKED:
            self.assertEqual(worth(likes, row, other, liken(likes, row, other)), table(likes, row, other)[0][0])

    def test_kinds(self):
        for likes, row, other in ASKED[::7]:
            told = liken(likes, row, other)
            self.assertIs(type(told), list)
            self.assertLessEqual({type(pair) for pair in told}, {tuple})


def twenty_likes():
    pairs = list(itertools.combinations(NAMES, 2))[::9][:18] + [(NAMES[0], NAMES[0]), (NAMES[3], NAMES[3])]
    return tuple([(one, other, 1 + number % 9) for number, (one, other) in enumerate(pairs)])


def first_by_lists(likes, row, other):
    # For each two places the first likening behind them, by comparing whole lists.
    told = {}
    for one in range(len(row), -1, -1):
        for another in range(len(other), -1, -1):
            choices = [(0, [])]
            if one < len(row):
                choices.append(told[one + 1, another])
            if another < len(other):
                choices.append(told[one, another + 1])
            if one < len(row) and another < len(other) and points_told(likes, row[one], other[another]):
                less, behind = told[one + 1, another + 1]
                choices.append((less - points_told(likes, row[one], other[another]), [(one, another)] + behind))
            told[one, another] = min(choices)
    return told[0, 0][1]


class LongRows(unittest.TestCase):
    def test_in_good_time(self):
        likes = twenty_likes()
        self.assertEqual(len(likes), 20)
        rows = [turning_row(60, NAMES[:count], seed) for count in (1, 2, 5, 20) for seed in (3, 8)]
        begun = time.process_time()
        for row in rows:
            for other in rows:
                liken(likes, row, other)
        self.assertLess(time.process_time() - begun, 64)

    def test_the_first_of_the_greatest_worth(self):
        likes = twenty_likes()
        for count in (1, 2, 5, 20):
            row, other = turning_row(60, NAMES[:count], 5), turning_row(60, NAMES[:count], 9)
            for some in (likes, likes[:3], ()):
                self.assertEqual(liken(some, row, other), first_by_lists(some, row, other))

    def test_the_table_shows_it(self):
        likes = twenty_likes()
        row, other = turning_row(60, NAMES[:7], 5), turning_row(60, NAMES[:7], 9)
        told = table(likes, row, other)
        for one, another in itertools.product(range(60), repeat=2):
            paired = points_of(likes, row[one], other[another]) + told[one + 1][another + 1]
            self.assertGreaterEqual(told[one][another], told[one + 1][another])
            self.assertGreaterEqual(told[one][another], told[one][another + 1])
            self.assertGreaterEqual(told[one][another], paired)
        self.assertEqual(worth(likes, row, other, liken(likes, row, other)), told[0][0])

    def test_like_rows(self):
        for row in (["a"] * 60, list("ab") * 30, list("abcdef") * 10):
            self.assertEqual(liken((), row, row), [(number, number) for number in range(60)])
            self.assertEqual(table((), row, row)[0][0], 60)

    def test_rows_with_nothing_alike(self):
        self.assertEqual(liken((), ["a"] * 60, ["b"] * 60), [])
        self.assertEqual(table((), ["a"] * 60, ["b"] * 60), [[0] * 61] * 61)


class ListsToldAndHandedIn(unittest.TestCase):
    def setUp(self):
        self.likes = (("a", "b", 2),)
        self.row = ["a", "b", "a"]
        self.other = ["b", "b"]

    def test_told_lists_are_the_askers_own(self):
        for ask in (table, liken):
            for row, other in ((self.row, self.other), (self.row, []), ([], self.other), ([], [])):
                first, kept = ask(self.likes, row, other), ask(self.likes, row, other)
                first.append("more")
                first[0] = "other"
                self.assertEqual(ask(self.likes, row, other), kept)

    def test_so_are_the_lists_within_a_table(self):
        for row, other in ((self.row, self.other), (["c", "c"], ["d"]), (self.row, []), ([], self.other)):
            kept = copy.deepcopy(table(self.likes, row, other))
            for place in range(len(kept)):
                told = table(self.likes, row, other)
                told[place][0] = 99
                told[place].append("more")
                self.assertEqual(told[:place] + told[place + 1:], kept[:place] + kept[place + 1:])
                self.assertEqual(table(self.likes, row, other), kept)

    def test_rows_that_are_changed_later(self):
        told = (table(self.likes, self.row, self.other), liken(self.likes, self.row, self.other))
        kept = copy.deepcopy(told)
        self.row.clear()
        self.other.append("a")
        self.assertEqual(told, kept)
        self.assertEqual(liken(self.likes, self.row, self.other), [])

    def test_what_is_handed_in_stays_as_it_was(self):
        for pairs in ([], [(0, 0), (1, 1)], [(1, 1), (0, 0)], [(-1, 7)]):
            handed = (self.likes, self.row, self.other, pairs)
            kept = copy.deepcopy(handed)
            worth(likes=self.likes, row=self.row, other=self.other, pairs=pairs)
            table(likes=self.likes, row=self.row, other=self.other)
            liken(likes=self.likes, row=self.row, other=self.other)
            self.assertEqual(handed, kept)

    def test_one_list_as_both_rows(self):
        self.assertEqual(liken((), self.row, self.row), [(0, 0), (1, 1), (2, 2)])
        self.assertEqual(self.row, ["a", "b", "a"])


if __name__ == "__main__":
    unittest.main()
