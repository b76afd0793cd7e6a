import copy
import itertools
import math
import unittest
from fractions import Fraction

from bores.ratios import less, minus, plus
from bores.sheets import bored_at, ground_at, lines_at, sheets, thick_at, whole_at

GREATEST = 10 ** 60 - 1
NOUGHT = (0, 1)


def bore(thicks, place=0, top=0, name="a"):
    # One block for each tuple of thicknesses.
    blocks = tuple([tuple([("sand", thick) for thick in block]) for block in thicks])
    return (name, place, top, blocks)


def row_of(count, place):
    return bore((tuple(range(1, count + 1)),), place)


def thicks_of(asked):
    return [thick for block in asked[3] for mark, thick in block]


def as_ratio(fraction):
    return (fraction.numerator, fraction.denominator)


def straight(left, right, value, other, place):
    slope = Fraction(other - value, right[1] - left[1])
    return as_ratio(value + slope * (place - left[1]))


def all_pairs(count, other, begin=(0, 0)):
    told = [[]]
    for one, another in itertools.product(range(begin[0], count), range(begin[1], other)):
        told += [[(one, another)] + behind for behind in all_pairs(count, other, (one + 1, another + 1))]
    return told


# Left bore, right bore, pairs of theirs.
DRAWN = (
    (bore(((4,),), 0, 10), bore(((4,),), 1, 10), [(0, 0)]),
    (bore(((4,),), 3, 10), bore(((6,),), 7, 2), []),
    (bore(((5, 1), (2,)), 2, 100), bore(((3,), (8, 4)), 14, 91), [(0, 0), (2, 1)]),
    (bore(((5, 1), (2,)), 2, 91), bore(((3,), (8, 4)), 15, 100), [(1, 2)]),
    (bore(((1, 2, 3, 4, 5),), 0, 0), bore(((9,), (7,), (2,)), 6, 0), [(1, 0), (2, 1), (4, 2)]),
    (bore(((2,),), 5, 0), bore(((3, 3), (3, 3), (3, 3)), 14, 1), [(0, 4)]),
    (bore(((1, 1), (1, 1), (1, 1)), 5, 7), bore(((10,),), 17, 7), []),
    (
        bore(((GREATEST, 1, 10 ** 59), (GREATEST - 1,)), 0, GREATEST),
        bore(((3, GREATEST), (GREATEST // 7,)), 10 ** 59 + 7, 1),
        [(0, 1), (3, 2)],
    ),
    (
        bore(((1, GREATEST),), GREATEST - 6, 0),
        bore(((GREATEST, 2),), GREATEST, GREATEST),
        [(1, 0)],
    ),
)


def places_of(left, right):
    span = right[1] - left[1]
    steps = {0, 1, 2, 3, span // 3, span // 2, 2 * span // 3, span - 2, span - 1, span}
    return sorted([left[1] + step for step in steps if 0 <= step <= span])


ASKED = tuple([(left, right, pairs, place) for left, right, pairs in DRAWN for place in places_of(left, right)])


class Sheets(unittest.TestCase):
    def told(self, count, other, pairs):
        return sheets(row_of(count, 0), row_of(other, 9), pairs)

    def test_no_pairs(self):
        self.assertEqual(self.told(1, 1, []), [(0, None), (None, 0)])
        self.assertEqual(self.told(2, 3, []), [(0, None), (1, None), (None, 0), (None, 1), (None, 2)])

    def test_one_pair(self):
        self.assertEqual(self.told(1, 1, [(0, 0)]), [(0, 0)])
        self.assertEqual(self.told(3, 1, [(1, 0)]), [(0, None), (1, 0), (2, None)])
        self.assertEqual(self.told(1, 3, [(0, 1)]), [(None, 0), (0, 1), (None, 2)])

    def test_all_layers_in_pairs(self):
        for count in range(1, 8):
            pairs = [(number, number) for number in range(count)]
            self.assertEqual(self.told(count, count, pairs), pairs)

    def test_others_ahead_of_the_first_pair(self):
        self.assertEqual(self.told(3, 1, [(2, 0)]), [(0, None), (1, None), (2, 0)])
        self.assertEqual(self.told(1, 3, [(0, 2)]), [(None, 0), (None, 1), (0, 2)])
        self.assertEqual(self.told(3, 2, [(2, 1)]), [(0, None), (1, None), (None, 0), (2, 1)])

    def test_others_between_two_pairs(self):
        self.assertEqual(self.told(4, 2, [(0, 0), (3, 1)]), [(0, 0), (1, None), (2, None), (3, 1)])
        self.assertEqual(self.told(2, 4, [(0, 0), (1, 3)]), [(0, 0), (None, 1), (None, 2), (1, 3)])
        self.assertEqual(
            self.told(4, 4, [(0, 0), (3, 3)]),
            [(0, 0), (1, None), (2, None), (None, 1), (None, 2), (3, 3)],
        )

    def test_others_behind_the_last_pair(self):
        self.assertEqual(self.told(3, 1, [(0, 0)]), [(0, 0), (1, None), (2, None)])
        self.assertEqual(self.told(1, 3, [(0, 0)]), [(0, 0), (None, 1), (None, 2)])
        self.assertEqual(self.told(2, 3, [(0, 0)]), [(0, 0), (1, None), (None, 1), (None, 2)])

    def test_others_everywhere(self):
        self.assertEqual(
            self.told(5, 6, [(1, 2), (3, 4)]),
            [(0, None), (None, 0), (None, 1), (1, 2), (2, None), (None, 3), (3, 4), (4, None), (None, 5)],
        )

    def test_blocks_make_no_bounds(self):
        left = bore(((1,), (2, 3), (4,)), 0)
        right = bore(((1, 2), (3,)), 5)
        self.assertEqual(
            sheets(left, right, [(1, 0), (3, 2)]),
            [(0, None), (1, 0), (2, None), (None, 1), (3, 2)],
        )
        self.assertEqual(sheets(left, right, []), [(n, None) for n in range(4)] + [(None, n) for n in range(3)])

    def test_all_pairs_of_short_bores(self):
        for count, other in itertools.product(range(1, 5), repeat=2):
            for pairs in all_pairs(count, other):
                self.assert_drawn(self.told(count, other, pairs), count, other, pairs)

    def assert_drawn(self, told, count, other, pairs):
        self.assertEqual([one for one, another in told if one is not None], list(range(count)))
        self.assertEqual([another for one, another in told if another is not None], list(range(other)))
        self.assertEqual([sheet for sheet in told if None not in sheet], pairs)
        # Behind a sheet of the right bore alone comes a pair, or another one of the right bore alone.
        for sheet, behind in zip(told, told[1:]):
            self.assertFalse(sheet[0] is None and behind[1] is None, (told, pairs))

    def test_sixty_layers(self):
        pairs = [(number, number) for number in range(0, 30, 2)]
        told = self.told(30, 30, pairs)
        self.assert_drawn(told, 30, 30, pairs)
        self.assertEqual(len(told), 45)

    def test_kinds(self):
        for left, right, pairs in DRAWN:
            told = sheets(left, right, pairs)
            self.assertIs(type(told), list)
            self.assertEqual({type(sheet) for sheet in told}, {tuple})
            self.assertEqual({len(sheet) for sheet in told}, {2})


class Thicknesses(unittest.TestCase):
    def test_a_pair_at_and_between_the_bores(self):
        left, right = bore(((4,),), 10), bore(((7,),), 16)
        told = [thick_at(left, right, [(0, 0)], place) for place in range(10, 17)]
        self.assertEqual(told, [[(4, 1)], [(9, 2)], [(5, 1)], [(11, 2)], [(6, 1)], [(13, 2)], [(7, 1)]])

    def test_a_pair_that_grows_thinner(self):
        left, right = bore(((7,),), 0), bore(((4,),), 6)
        told = [thick_at(left, right, [(0, 0)], place) for place in range(7)]
        self.assertEqual(told, [[(7, 1)], [(13, 2)], [(6, 1)], [(11, 2)], [(5, 1)], [(9, 2)], [(4, 1)]])

    def test_sheets_wedge_out_to_either_side(self):
        left, right = bore(((6,),), 0), bore(((4,),), 8)
        told = [thick_at(left, right, [], place) for place in (0, 1, 2, 4, 6, 7, 8)]
        self.assertEqual(
            told,
            [
                [(6, 1), (0, 1)],
                [(21, 4), (1, 2)],
                [(9, 2), (1, 1)],
                [(3, 1), (2, 1)],
                [(3, 2), (3, 1)],
                [(3, 4), (7, 2)],
                [(0, 1), (4, 1)],
            ],
        )

    def test_bores_side_by_side(self):
        left, right = bore(((6, 2),), 4), bore(((3,),), 5)
        self.assertEqual(thick_at(left, right, [(1, 0)], 4), [(6, 1), (2, 1)])
        self.assertEqual(thick_at(left, right, [(1, 0)], 5), [(0, 1), (3, 1)])

    def test_straight_lines(self):
        for left, right, pairs, place in ASKED:
            ones, others = thicks_of(left) + [0], thicks_of(right) + [0]
            told = [
                straight(left, right, ones[-1 if one is None else one], others[-1 if other is None else other], place)
                for one, other in sheets(left, right, pairs)
            ]
            self.assertEqual(thick_at(left, right, pairs, place), told)

    def test_whole(self):
        left, right = bore(((4, 1), (3,)), 2), bore(((5,),), 8)
        self.assertEqual([whole_at(left, right, place) for place in (2, 3, 4, 8)], [(8, 1), (15, 2), (7, 1), (5, 1)])
        for left, right, pairs, place in ASKED:
            told = straight(left, right, sum(thicks_of(left)), sum(thicks_of(right)), place)
            self.assertEqual(whole_at(left, right, place), told)

    def test_ground_that_rises_and_falls(self):
        low, high = bore(((4,),), 0, 10), bore(((1,),), 6, 13)
        self.assertEqual([ground_at(low, high, place) for place in (0, 1, 2, 6)], [(10, 1), (21, 2), (11, 1), (13, 1)])
        high, low = bore(((4,),), 0, 13), bore(((1,),), 6, 10)
        self.assertEqual([ground_at(high, low, place) for place in (0, 1, 2, 6)], [(13, 1), (25, 2), (12, 1), (10, 1)])
        flat, even = bore(((4,),), 0, 7), bore(((9,),), 6, 7)
        self.assertEqual({ground_at(flat, even, place) for place in range(7)}, {(7, 1)})
        sea, hill = bore(((4,),), 0, 0), bore(((9,),), 6, 3)
        self.assertEqual([ground_at(sea, hill, place) for place in (0, 1, 6)], [(0, 1), (1, 2), (3, 1)])

    def test_ground_is_straight(self):
        for left, right, pairs, place in ASKED:
            self.assertEqual(ground_at(left, right, place), straight(left, right, left[2], right[2], place))

    def test_numbers_of_sixty_figures(self):
        left = bore(((GREATEST,),), 0, GREATEST)
        right = bore(((GREATEST - 1,),), GREATEST, 0)
        self.assertEqual(thick_at(left, right, [(0, 0)], 1), [(GREATEST * GREATEST - 1, GREATEST)])
        self.assertEqual(ground_at(left, right, 1), (GREATEST - 1, 1))
        self.assertEqual(whole_at(left, right, GREATEST), (GREATEST - 1, 1))

    def test_lowest_terms(self):
        for left, right, pairs, place in ASKED:
            told = thick_at(left, right, pairs, place) + lines_at(left, right, pairs, place)
            told += [whole_at(left, right, place), ground_at(left, right, place)]
            for ratio in told:
                self.assertIs(type(ratio), tuple)
                self.assertEqual([type(number) for number in ratio], [int, int])
                self.assertEqual(math.gcd(*ratio), 1)
                self.assertGreaterEqual(ratio[1], 1)


class Sums(unittest.TestCase):
    def test_thicknesses_add_up_to_the_whole(self):
        for left, right, pairs, place in ASKED:
            total = NOUGHT
            for thick in thick_at(left, right, pairs, place):
                self.assertFalse(less(thick, NOUGHT))
                total = plus(total, thick)
            self.assertEqual(total, whole_at(left, right, place))

    def test_lines(self):
        left, right = bore(((6,), (2,)), 0, 10), bore(((4,),), 4, 20)
        self.assertEqual(lines_at(left, right, [], 0), [(10, 1), (4, 1), (2, 1), (2, 1)])
        self.assertEqual(lines_at(left, right, [], 1), [(25, 2), (8, 1), (13, 2), (11, 2)])
        self.assertEqual(lines_at(left, right, [], 4), [(20, 1), (20, 1), (20, 1), (16, 1)])
        self.assertEqual(lines_at(left, right, [(1, 0)], 2), [(15, 1), (12, 1), (9, 1)])

    def test_lines_fall_below_nought(self):
        left, right = bore(((6,),), 0, 1), bore(((4,),), 2, 0)
        self.assertEqual(lines_at(left, right, [(0, 0)], 1), [(1, 2), (-9, 2)])

    def test_lines_from_the_ground_to_the_whole_below(self):
        for left, right, pairs, place in ASKED:
            lines = lines_at(left, right, pairs, place)
            self.assertEqual(len(lines), len(sheets(left, right, pairs)) + 1)
            self.assertEqual(lines[0], ground_at(left, right, place))
            self.assertEqual(minus(lines[0], lines[-1]), whole_at(left, right, place))
            steps = [minus(one, other) for one, other in zip(lines, lines[1:])]
            self.assertEqual(steps, thick_at(left, right, pairs, place))


class Bored(unittest.TestCase):
    def test_at_and_between_the_bores(self):
        left, right = bore(((6, 2),), 0), bore(((4,), (8,)), 4)
        self.assertEqual(bored_at(left, right, [(1, 0)], 0), [((0, None), (6, 1)), ((1, 0), (2, 1))])
        self.assertEqual(
            bored_at(left, right, [(1, 0)], 1),
            [((0, None), (9, 2)), ((1, 0), (5, 2)), ((None, 1), (2, 1))],
        )
        self.assertEqual(bored_at(left, right, [(1, 0)], 4), [((1, 0), (4, 1)), ((None, 1), (8, 1))])

    def test_at_either_bore_its_own_layers(self):
        for left, right, pairs in DRAWN:
            for side, asked in enumerate((left, right)):
                told = bored_at(left, right, pairs, asked[1])
                layers = [(sheet[side], thick) for sheet, thick in told]
                self.assertEqual(layers, [(number, (thick, 1)) for number, thick in enumerate(thicks_of(asked))])

    def test_between_them_every_sheet(self):
        for left, right, pairs, place in ASKED:
            if left[1] < place < right[1]:
                told = list(zip(sheets(left, right, pairs), thick_at(left, right, pairs, place)))
                self.assertEqual(bored_at(left, right, pairs, place), told)

    def test_a_sheet_thinner_than_one(self):
        left, right = bore(((1,),), 0), bore(((1,),), GREATEST)
        self.assertEqual(
            bored_at(left, right, [], 1),
            [((0, None), (GREATEST - 1, GREATEST)), ((None, 0), (1, GREATEST))],
        )

    def test_kinds(self):
        for left, right, pairs, place in ASKED:
            told = bored_at(left, right, pairs, place)
            self.assertIs(type(told), list)
            for thing in told:
                self.assertIs(type(thing), tuple)
                self.assertEqual([type(part) for part in thing], [tuple, tuple])


class ListsToldAndHandedIn(unittest.TestCase):
    def test_told_lists_are_the_askers_own(self):
        for left, right, pairs in DRAWN:
            asks = [lambda: sheets(left, right, pairs)]
            for ask in (thick_at, lines_at, bored_at):
                asks.append(lambda ask=ask: ask(left, right, pairs, left[1] + 1))
            for ask in asks:
                first, kept = ask(), ask()
                first.reverse()
                first.append("more")
                first[0] = "other"
                self.assertEqual(ask(), kept)

    def test_pairs_that_are_changed_later(self):
        left, right = row_of(2, 0), row_of(2, 3)
        pairs = [(0, 0), (1, 1)]
        told = [sheets(left, right, pairs)] + [ask(left, right, pairs, 1) for ask in (thick_at, lines_at, bored_at)]
        kept = copy.deepcopy(told)
        pairs.clear()
        self.assertEqual(told, kept)

    def test_a_told_list_that_is_changed_leaves_the_pairs(self):
        left, right = row_of(2, 0), row_of(2, 3)
        pairs = [(0, 0), (1, 1)]
        sheets(left, right, pairs).clear()
        none = []
        sheets(left, right, none).clear()
        self.assertEqual((pairs, none), ([(0, 0), (1, 1)], []))

    def test_what_is_handed_in_stays_as_it_was(self):
        for left, right, pairs, place in ASKED:
            kept = copy.deepcopy((left, right, pairs))
            sheets(left=left, right=right, pairs=pairs)
            thick_at(left=left, right=right, pairs=pairs, place=place)
            whole_at(left=left, right=right, place=place)
            ground_at(left=left, right=right, place=place)
            lines_at(left=left, right=right, pairs=pairs, place=place)
            bored_at(left=left, right=right, pairs=pairs, place=place)
            self.assertEqual((left, right, pairs), kept)


if __name__ == "__main__":
    unittest.main()
