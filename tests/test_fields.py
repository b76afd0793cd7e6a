import copy
import unittest

from bores.errors import Unfit
from bores.fields import bore_fits, fits, fitted, points_of

GREATEST = 10 ** 60 - 1
UNFIT_NAMES = ("", "abcdefghi", "A", "aB", "a1", "1", "a b", " a", "a ", "a\n", "a\t", "a.b", "-")
BLOCKS = ((("sand", 3), ("clay", 1)), (("sand", 2),))
LIKES = (("sand", "silt", 5), ("clay", "clay", 9), ("marl", "clay", 1))


def bore(name="a", place=0, top=0, blocks=BLOCKS):
    return (name, place, top, blocks)


def letters(count):
    return [chr(ord("a") + number) for number in range(count)]


class BoreFits(unittest.TestCase):
    def assert_fits(self, asked, answer):
        self.assertIs(bore_fits(asked), answer, asked)
        # A field is as its bores are, wherever the bore stands in it.
        other = bore("other", 77)
        self.assertIs(fits(((asked,), ())), answer, asked)
        self.assertIs(fits(((other, asked), LIKES)), answer, asked)
        self.assertIs(fits(((asked, other), LIKES)), answer, asked)

    def test_ordinary(self):
        self.assert_fits(bore(), True)
        self.assert_fits(bore("abcdefgh", 12, 340, ((("a", 1),),)), True)

    def test_name(self):
        for name in UNFIT_NAMES:
            self.assert_fits(bore(name=name), False)

    def test_place(self):
        for place, answer in ((-GREATEST, False), (-1, False), (0, True), (1, True), (GREATEST, True)):
            self.assert_fits(bore(place=place), answer)

    def test_top(self):
        for top, answer in ((-GREATEST, False), (-1, False), (0, True), (1, True), (GREATEST, True)):
            self.assert_fits(bore(top=top), answer)

    def test_no_blocks(self):
        self.assert_fits(bore(blocks=()), False)

    def test_a_block_without_layers(self):
        block = (("sand", 3),)
        for blocks in (((),), ((), block), (block, ()), (block, (), block), ((), ())):
            self.assert_fits(bore(blocks=blocks), False)

    def test_mark(self):
        for mark in UNFIT_NAMES:
            for blocks in self.blocks_with((mark, 1)):
                self.assert_fits(bore(blocks=blocks), False)

    def test_thickness(self):
        for thick, answer in ((-GREATEST, False), (-1, False), (0, False), (1, True), (2, True), (GREATEST, True)):
            for blocks in self.blocks_with(("marl", thick)):
                self.assert_fits(bore(blocks=blocks), answer)

    def blocks_with(self, layer):
        sand = ("sand", 3)
        return (
            ((layer,),),
            ((layer, sand),),
            ((sand, layer),),
            ((layer,), (sand,)),
            ((sand,), (sand, layer, sand)),
        )

    def test_like_marks_and_names_may_stand_again(self):
        self.assert_fits(bore("sand", 5, 5, ((("sand", 5), ("sand", 5)), (("sand", 5),))), True)

    def test_bounds_are_no_refusal(self):
        self.assert_fits(bore(place=10 ** 61, top=10 ** 61, blocks=((("a", 10 ** 61),) * 61,)), True)


class FieldFits(unittest.TestCase):
    def test_ordinary(self):
        self.assertIs(fits(((bore("b", 9), bore("a", 2)), LIKES)), True)

    def test_of_no_bores_and_of_no_likes(self):
        self.assertIs(fits(((), ())), True)
        self.assertIs(fits(((), LIKES)), True)
        self.assertIs(fits(((bore(),), ())), True)

    def test_no_bores_but_likes_that_do_not_fit(self):
        self.assertIs(fits(((), (("a", "b", 0),))), False)

    def test_two_bores_of_one_name(self):
        self.assertIs(fits(((bore("a", 1), bore("a", 2)), ())), False)
        self.assertIs(fits(((bore("a", 1), bore("b", 2), bore("a", 3)), ())), False)

    def test_two_bores_of_one_place(self):
        self.assertIs(fits(((bore("a", 1), bore("b", 1)), ())), False)
        self.assertIs(fits(((bore("a", GREATEST), bore("b", 2), bore("c", GREATEST)), ())), False)

    def test_the_same_bore_twice(self):
        self.assertIs(fits(((bore(), bore()), ())), False)

    def test_like_tops_and_blocks_fit(self):
        self.assertIs(fits(((bore("a", 1, 4), bore("b", 4, 4)), ())), True)

    def test_a_like_whose_mark_is_no_name(self):
        for mark in UNFIT_NAMES:
            self.assertIs(fits(((), ((mark, "sand", 3),))), False, mark)
            self.assertIs(fits(((bore(),), LIKES + (("silt", mark, 3),))), False, mark)
            self.assertIs(fits(((bore(),), ((mark, mark, 3),) + LIKES)), False, mark)

    def test_points(self):
        for points in (-GREATEST, -1, 0, 10, 11, GREATEST):
            self.assertIs(fits(((), (("a", "b", points),))), False, points)
            self.assertIs(fits(((bore(),), LIKES + (("a", "a", points),))), False, points)
        for points in range(1, 10):
            self.assertIs(fits(((), (("a", "b", points),))), True, points)

    def test_two_likes_of_the_same_marks(self):
        for again in (("sand", "silt", 4), ("silt", "sand", 4), ("sand", "silt", 5), ("silt", "sand", 5)):
            self.assertIs(fits(((bore(),), LIKES + (again,))), False, again)
            self.assertIs(fits(((bore(),), (again,) + LIKES)), False, again)
        self.assertIs(fits(((), LIKES + (("clay", "clay", 2),))), False)

    def test_likes_that_share_one_mark_fit(self):
        likes = (("a", "a", 1), ("a", "b", 1), ("b", "b", 1), ("c", "a", 1), ("b", "c", 1), ("c", "c", 1))
        self.assertIs(fits(((), likes)), True)

    def test_marks_are_not_run_together(self):
        self.assertIs(fits(((), (("ab", "c", 1), ("a", "bc", 1)))), True)

    def test_greatest_and_somewhat_beyond(self):
        for count in (12, 13):
            bores = tuple([bore(name, place) for place, name in enumerate(letters(count))])
            likes = tuple([("a", name * 2, 9) for name in letters(count + 8)])
            self.assertIs(fits((bores, likes)), True)


class Fitted(unittest.TestCase):
    def test_tells_the_field(self):
        for field in (((), ()), ((bore("b", 9), bore("a", 2)), LIKES), ((), LIKES)):
            self.assertEqual(fitted(field), field)

    def test_refuses_with_unfit(self):
        unfit = (
            ((bore("A"),), ()),
            ((bore(place=-1),), ()),
            ((bore(top=-1),), ()),
            ((bore(blocks=()),), ()),
            ((bore(blocks=((),)),), ()),
            ((bore(blocks=((("", 1),),)),), ()),
            ((bore(blocks=((("a", 0),),)),), ()),
            ((bore("a", 1), bore("a", 2)), ()),
            ((bore("a", 1), bore("b", 1)), ()),
            ((), (("A", "a", 1),)),
            ((), (("a", "b", 0),)),
            ((), (("a", "b", 10),)),
            ((), (("a", "b", 1), ("b", "a", 1))),
        )
        for field in unfit:
            self.assertIs(fits(field), False, field)
            with self.assertRaises(Unfit, msg=field):
                fitted(field)

    def test_what_is_handed_in_stays_as_it_was(self):
        field = ((bore("b", 9), bore("a", 2)), LIKES)
        kept = copy.deepcopy(field)
        fits(field)
        fitted(field)
        bore_fits(field[0][0])
        points_of(field[1], "sand", "silt")
        self.assertEqual(field, kept)


class Points(unittest.TestCase):
    def test_told_either_way_about(self):
        self.assertEqual(points_of(LIKES, "sand", "silt"), 5)
        self.assertEqual(points_of(LIKES, "silt", "sand"), 5)
        self.assertEqual(points_of(LIKES, "marl", "clay"), 1)
        self.assertEqual(points_of(LIKES, "clay", "marl"), 1)

    def test_told_of_a_mark_and_itself(self):
        self.assertEqual(points_of(LIKES, "clay", "clay"), 9)
        self.assertEqual(points_of((("a", "a", 1),), "a", "a"), 1)

    def test_where_none_are_told(self):
        for likes in ((), LIKES):
            self.assertEqual(points_of(likes, "sand", "sand"), 1)
            self.assertEqual(points_of(likes, "peat", "peat"), 1)
            self.assertEqual(points_of(likes, "sand", "clay"), 0)
            self.assertEqual(points_of(likes, "clay", "sand"), 0)
            self.assertEqual(points_of(likes, "sand", "peat"), 0)

    def test_likes_do_not_lead_on(self):
        likes = (("a", "b", 3), ("b", "c", 3))
        self.assertEqual(points_of(likes, "a", "c"), 0)

    def test_each_of_many(self):
        likes = tuple([("a", name, 1 + number % 9) for number, name in enumerate(letters(20))])
        for mark, other, points in likes:
            self.assertEqual(points_of(likes, mark, other), points)
            self.assertEqual(points_of(likes, other, mark), points)


if __name__ == "__main__":
    unittest.main()
