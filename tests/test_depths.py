import copy
import unittest

from bores.depths import block_ends, by_place, depths, layers_of, whole

GREATEST = 10 ** 60 - 1
SAND = ("sand", 3)
CLAY = ("clay", 1)
MARL = ("marl", 7)


def bore(blocks, name="a", place=0, top=0):
    return (name, place, top, blocks)


# For each tuple of blocks: the layers, the ends of the blocks, the depths, the whole.
TOLD = (
    (((CLAY,),), [CLAY], [0], [(0, 1)], 1),
    (((SAND, CLAY, MARL),), [SAND, CLAY, MARL], [2], [(0, 3), (3, 4), (4, 11)], 11),
    (((SAND,), (MARL,)), [SAND, MARL], [0, 1], [(0, 3), (3, 10)], 10),
    (((SAND, CLAY), (MARL,)), [SAND, CLAY, MARL], [1, 2], [(0, 3), (3, 4), (4, 11)], 11),
    (((SAND,), (CLAY, MARL)), [SAND, CLAY, MARL], [0, 2], [(0, 3), (3, 4), (4, 11)], 11),
    (
        ((MARL, SAND), (SAND,), (SAND, MARL, SAND)),
        [MARL, SAND, SAND, SAND, MARL, SAND],
        [1, 2, 5],
        [(0, 7), (7, 10), (10, 13), (13, 16), (16, 23), (23, 26)],
        26,
    ),
    (
        ((("a", GREATEST), ("b", 1)), (("c", GREATEST),)),
        [("a", GREATEST), ("b", 1), ("c", GREATEST)],
        [1, 2],
        [(0, GREATEST), (GREATEST, 10 ** 60), (10 ** 60, 2 * 10 ** 60 - 1)],
        2 * 10 ** 60 - 1,
    ),
)
LISTS = (layers_of, block_ends, depths)


class OfABore(unittest.TestCase):
    def test_layers(self):
        for blocks, layers, ends, spans, thick in TOLD:
            self.assertEqual(layers_of(bore(blocks)), layers)

    def test_block_ends(self):
        for blocks, layers, ends, spans, thick in TOLD:
            self.assertEqual(block_ends(bore(blocks)), ends)

    def test_depths(self):
        for blocks, layers, ends, spans, thick in TOLD:
            self.assertEqual(depths(bore(blocks)), spans)

    def test_whole(self):
        for blocks, layers, ends, spans, thick in TOLD:
            self.assertEqual(whole(bore(blocks)), thick)

    def test_place_and_top_say_nothing_of_depths(self):
        blocks, layers, ends, spans, thick = TOLD[3]
        for other in (bore(blocks, "b", 5, 90), bore(blocks, "c", GREATEST, 0), bore(blocks, "d", 0, GREATEST)):
            self.assertEqual((layers_of(other), block_ends(other)), (layers, ends))
            self.assertEqual((depths(other), whole(other)), (spans, thick))

    def test_kinds(self):
        for blocks, layers, ends, spans, thick in TOLD:
            for told in [ask(bore(blocks)) for ask in LISTS]:
                self.assertIs(type(told), list)
            self.assertEqual({type(layer) for layer in layers_of(bore(blocks))}, {tuple})
            self.assertEqual({type(end) for end in block_ends(bore(blocks))}, {int})
            self.assertEqual({type(span) for span in depths(bore(blocks))}, {tuple})
            self.assertIs(type(whole(bore(blocks))), int)

    def test_one_layer_begins_where_the_one_above_ends(self):
        for count in range(1, 61):
            layers = [("a", 1 + number * number) for number in range(count)]
            for ends in ((), (count // 2,), (count // 3, count // 2)):
                cuts = [0] + [end for end in ends if 0 < end < count] + [count]
                blocks = tuple([tuple(layers[one:other]) for one, other in zip(cuts, cuts[1:]) if one < other])
                self.assert_depths_hang_together(bore(blocks), layers)

    def assert_depths_hang_together(self, asked, layers):
        spans = depths(asked)
        self.assertEqual(layers_of(asked), layers)
        self.assertEqual([lower - upper for upper, lower in spans], [thick for mark, thick in layers])
        self.assertEqual([upper for upper, lower in spans], [0] + [lower for upper, lower in spans][:-1])
        self.assertEqual(whole(asked), spans[-1][1])
        numbers = [-1] + block_ends(asked)
        self.assertEqual([other - one for one, other in zip(numbers, numbers[1:])], [len(part) for part in asked[3]])


class ByPlace(unittest.TestCase):
    def setUp(self):
        blocks = ((SAND, CLAY), (MARL,))
        self.west = bore(blocks, "west", 0, 9)
        self.mid = bore(((MARL,),), "mid", 9, 3)
        self.east = bore(blocks, "east", 10, 0)
        self.far = bore(blocks, "a", GREATEST, 0)

    def test_of_no_bores(self):
        self.assertEqual(by_place(((), ())), [])
        self.assertEqual(by_place(((), (("sand", "clay", 3),))), [])

    def test_of_one(self):
        self.assertEqual(by_place(((self.mid,), ())), [self.mid])

    def test_of_several_in_each_order(self):
        ordered = [self.west, self.mid, self.east, self.far]
        for shift in range(4):
            turned = tuple(ordered[shift:] + ordered[:shift])
            for bores in (turned, turned[::-1]):
                self.assertEqual(by_place((bores, ())), ordered)
                self.assertEqual(by_place((bores, (("sand", "clay", 3),))), ordered)

    def test_places_are_numbers_and_no_words(self):
        places = (100, 9, 20, 10 ** 59, 3, 0, 10 ** 59 - 1)
        bores = tuple([bore(((SAND,),), "abcdefg"[number], place) for number, place in enumerate(places)])
        self.assertEqual([told[1] for told in by_place((bores, ()))], sorted(places))

    def test_kinds(self):
        for bores in ((), (self.east, self.west)):
            told = by_place((bores, ()))
            self.assertIs(type(told), list)
            self.assertLessEqual({type(one) for one in told}, {tuple})


class ListsToldAndHandedIn(unittest.TestCase):
    def asked(self):
        first = bore(((SAND, CLAY), (MARL,)), "b", 4, 2)
        second = bore(((MARL,),), "a", 1, 0)
        return first, ((first, second), (("sand", "clay", 3),))

    def test_told_lists_are_the_askers_own(self):
        one, field = self.asked()
        for ask, thing in [(ask, one) for ask in LISTS] + [(by_place, field)]:
            first = ask(thing)
            kept = list(first)
            second = ask(thing)
            first.reverse()
            first.append("more")
            first[0] = "other"
            self.assertEqual(second, kept)
            self.assertEqual(ask(thing), kept)
            second.clear()
            self.assertEqual(ask(thing), kept)
            self.assertEqual((one, field), self.asked())

    def test_of_a_field_without_bores_too(self):
        by_place(((), ())).append("more")
        self.assertEqual(by_place(((), ())), [])

    def test_what_is_handed_in_stays_as_it_was(self):
        one, field = self.asked()
        kept = copy.deepcopy((one, field))
        for ask in LISTS + (whole,):
            ask(bore=one)
        by_place(field=field)
        self.assertEqual((one, field), kept)


if __name__ == "__main__":
    unittest.main()
