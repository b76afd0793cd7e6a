import copy
import unittest

from bores.reader import read
from bores.writer import show

GREATEST = 10 ** 60 - 1
EAST = ("east", 40, 120, ((("sand", 3), ("clay", 2)), (("sand", 1),)))
WEST = ("west", 0, 0, ((("silt", 4),),))
GREAT = ("abcdefgh", GREATEST, GREATEST, ((("zyxwvuts", GREATEST),),))
MANY = ("many", 7, 1, ((("a", 1),), (("b", 10), ("a", 1)), (("c", 3),)))
# Names and marks that are also the first words of rows.
WORDY = ("bore", 5, 6, ((("layer", 1), ("fault", 2)), (("like", 3),)))
LIKES = (("sand", "silt", 5), ("clay", "clay", 9), ("marl", "clay", 1))

SHOWN = (
    (((), ()), ""),
    (((WEST,), ()), "bore west 0 0\nlayer silt 4"),
    (((EAST,), ()), "bore east 40 120\nlayer sand 3\nlayer clay 2\nfault\nlayer sand 1"),
    (
        ((EAST, WEST), LIKES[:1]),
        "bore east 40 120\nlayer sand 3\nlayer clay 2\nfault\nlayer sand 1\n"
        "bore west 0 0\nlayer silt 4\nlike sand silt 5",
    ),
    (
        ((WEST, EAST), LIKES[1:2]),
        "bore west 0 0\nlayer silt 4\n"
        "bore east 40 120\nlayer sand 3\nlayer clay 2\nfault\nlayer sand 1\nlike clay clay 9",
    ),
    (((), LIKES), "like sand silt 5\nlike clay clay 9\nlike marl clay 1"),
    (((), LIKES[::-1]), "like marl clay 1\nlike clay clay 9\nlike sand silt 5"),
    (
        ((GREAT,), ()),
        "bore abcdefgh " + "9" * 60 + " " + "9" * 60 + "\nlayer zyxwvuts " + "9" * 60,
    ),
    (
        ((MANY,), LIKES[2:]),
        "bore many 7 1\nlayer a 1\nfault\nlayer b 10\nlayer a 1\nfault\nlayer c 3\nlike marl clay 1",
    ),
    (
        ((WORDY,), (("bore", "like", 2),)),
        "bore bore 5 6\nlayer layer 1\nlayer fault 2\nfault\nlayer like 3\nlike bore like 2",
    ),
)


def great_field():
    names = "abcdefghijkl"
    layers = [("mark" + name, 10 ** 59 + number) for number, name in enumerate(names)]
    bores = []
    for number, name in enumerate(names):
        cut = number % 4
        parts = (tuple(layers[:cut]), tuple(layers[cut:5]))
        bores.append((name * 8, 1000 - number, number, tuple([part for part in parts if part])))
    likes = [("sand", "q" + name, 1 + number % 9) for number, name in enumerate(names + "mnopqrst")]
    return (tuple(bores), tuple(likes))


class Shown(unittest.TestCase):
    def test_as_told(self):
        for field, text in SHOWN:
            self.assertEqual(show(field), text)
            self.assertIs(type(show(field)), str)

    def test_argument_by_its_name(self):
        self.assertEqual(show(field=((WEST,), ())), "bore west 0 0\nlayer silt 4")

    def test_what_is_handed_in_stays_as_it_was(self):
        for field, text in SHOWN:
            kept = copy.deepcopy(field)
            show(field)
            self.assertEqual(field, kept)


class ThereAndBack(unittest.TestCase):
    def test_a_text_is_read_as_the_field_that_it_shows(self):
        for field, text in SHOWN:
            self.assertEqual(read(text), field)

    def test_a_field_shown_and_read_is_the_same(self):
        for field in [field for field, text in SHOWN] + [great_field()]:
            self.assertEqual(read(show(field)), field)

    def test_the_order_of_bores_and_likes_stays(self):
        for bores in ((EAST, WEST, MANY), (MANY, EAST, WEST), (WEST, MANY, EAST)):
            for likes in (LIKES, LIKES[::-1], (("clay", "marl", 1),), (("marl", "clay", 1),)):
                self.assertEqual(read(show((bores, likes))), (bores, likes))


if __name__ == "__main__":
    unittest.main()
