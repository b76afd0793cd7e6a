import unittest

from bores.desk import Desk
from bores.errors import BoreError, Clash, NoText, Twice, Unfit, Unknown
from bores.likening import liken
from bores.orders import is_order
from bores.sheets import bored_at
from bores.threads import doubled, threads
from tests.plainly import Turning, is_ring, leads, lie, shown, spots, stand_well

GREATEST = 10 ** 60 - 1
ASKS = ("order", "threads", "lies a.0 b.1", "doubled a", "doubled b", "at 10", "at 17", "at 30")
ROWS = (
    "bore a 10 100 sand:3 clay:2 / sand:4",
    "bore b 30 90 silt:1 clay:6",
    "like sand silt 5",
    "over a.2 b.0",
    "one a.1 b.1",
)
# The records that these rows put in.
RECORDS = [
    ("a", 10, 100, ((("sand", 3), ("clay", 2)), (("sand", 4),))),
    ("b", 30, 90, ((("silt", 1), ("clay", 6)),)),
    ("over", ("a", 2), ("b", 0)),
    ("one", ("a", 1), ("b", 1)),
]
LIKES = (("sand", "silt", 5), ("clay", "clay", 3), ("marl", "sand", 2))
MARKS = ("sand", "silt", "clay", "marl")


def desk_of(rows):
    desk = Desk()
    for row in rows:
        desk.say(row)
    return desk


def spots_told(text):
    return [(name, int(number)) for name, number in [word.split(".") for word in text.split(" ")]]


class Refusing(unittest.TestCase):
    def assert_refused(self, desk, row, error):
        with self.assertRaises(BoreError) as caught:
            desk.say(row)
        self.assertIs(type(caught.exception), error, row)
        return caught.exception

    def assert_no_text(self, rows):
        desk = desk_of(ROWS)
        kept = [desk.say(row) for row in ASKS]
        for row in rows:
            self.assert_refused(desk, row, NoText)
            self.assert_refused(Desk(), row, NoText)
        self.assertEqual([desk.say(row) for row in ASKS], kept)
        self.assertEqual(desk.say("one a.0 a.0"), "5")


class Records(Refusing):
    def test_numbers(self):
        desk = Desk()
        told = [desk.say(row) for row in ROWS]
        self.assertEqual(told, ["1", "2", "ok", "3", "4"])
        self.assertEqual([desk.say("bore c 0 0 a:1"), desk.say("one c.0 c.0")], ["5", "6"])

    def test_more_than_nine_records(self):
        desk = desk_of(["bore a 0 0 b:1"])
        self.assertEqual([desk.say("one a.0 a.0") for number in range(11)], [str(number) for number in range(2, 13)])

    def test_bore_is_put_in_as_it_is_told(self):
        # What a desk tells of a bore is what is told of the same one elsewhere.
        blocks = ((("sand", 3), ("clay", GREATEST)), (("clay", 1),), (("sand", 2), ("clay", 5), ("marl", 7)))
        left, right = ("name", 0, GREATEST, blocks), ("abcdefgh", 12, 0, ((("abcdefgh", 10),),))
        desk = desk_of([
            f"bore name 0 {GREATEST} sand:3 clay:{GREATEST} / clay:1 / sand:2 clay:5 marl:7",
            "bore abcdefgh 12 0 abcdefgh:10",
        ])
        self.assertEqual(desk.say("doubled name"), "1-2; 2-4")
        told = [f"{one}:-={top}/{bottom}" for (one, other), (top, bottom) in bored_at(left, right, [], 5)[:-1]]
        self.assertEqual(desk.say("at 5"), " ".join(told) + " -:0=25/6")
        self.assertEqual(desk.say("lies name.0 name.1"), "over")
        self.assertEqual(desk.say("lies name.1 name.2"), "open")
        self.assertEqual(desk.say("lies name.5 name.3"), "under")

    def test_bores_named_like_words(self):
        desk = desk_of(["bore one 0 0 over:1 row:2", "bore over 1 0 one:1", "bore bore 2 0 one:1", "bore at 3 0 at:1"])
        self.assertEqual(desk.say("over over.0 one.0"), "5")
        self.assertEqual(desk.say("one one.1 bore.0"), "6")
        self.assertEqual(desk.say("lies over.0 bore.0"), "over")
        self.assertEqual(desk.say("doubled one"), "-")

    def test_bore_that_does_not_fit(self):
        desk = Desk()
        for row in ("bore a 0 0 sand:0", "bore a 0 0 sand:1 / clay:0 marl:1"):
            self.assert_refused(desk, row, Unfit)
        self.assertEqual(desk.say("bore a 0 0 sand:1"), "1")
        self.assert_refused(desk, "bore a 0 0 sand:0", Unfit)

    def test_bore_that_is_there(self):
        desk = desk_of(ROWS)
        for row in (ROWS[0], "bore a 11 0 sand:1", "bore c 10 0 sand:1", "bore b 10 0 sand:1"):
            self.assert_refused(desk, row, Twice)

    def test_saying_of_spots_that_are_none(self):
        desk = desk_of(ROWS)
        for spot in ("c.0", "a.3", "b.2", f"a.{GREATEST}", "sand.0", "over.0"):
            for pair in (f"{spot} a.0", f"a.0 {spot}", f"b.1 {spot}", f"{spot} {spot}"):
                self.assert_refused(desk, f"one {pair}", Unknown)
                self.assert_refused(desk, f"over {pair}", Unknown)

    def test_saying_that_clashes(self):
        desk = desk_of(ROWS)
        self.assertEqual(self.assert_refused(desk, "over a.0 a.0", Clash).ring, [("over", 5)])
        self.assertEqual(self.assert_refused(desk, "one b.0 a.2", Clash).numbers, [3, 5])
        clash = self.assert_refused(desk, "over b.1 a.0", Clash)
        self.assertEqual(clash.numbers, [1, 4, 5])
        self.assertTrue(is_ring(RECORDS + [("over", ("b", 1), ("a", 0))], clash.ring))
        self.assertEqual(desk.say("over b.0 a.0"), "5")


class Likes(Refusing):
    def test_ok(self):
        desk = Desk()
        for row in ("like sand silt 1", "like clay clay 9", "like abcdefgh a 5", "like like like 2"):
            self.assertEqual(desk.say(row), "ok")

    def test_points_are_used(self):
        desk = desk_of(["bore a 0 0 sand:1 clay:1", "bore b 1 0 clay:1 silt:1"])
        self.assertEqual(desk.say("threads"), "a.0; a.1 b.0; b.1")
        desk.say("like sand silt 1")
        self.assertEqual(desk.say("threads"), "a.0 b.1; a.1; b.0")
        desk.say("like clay clay 2")
        self.assertEqual(desk.say("threads"), "a.0; a.1 b.0; b.1")

    def test_in_the_place_of_an_earlier_one(self):
        for earlier in ("like sand silt 9", "like silt sand 9"):
            for later in ("like sand silt 1", "like silt sand 1"):
                desk = desk_of(["bore a 0 0 sand:1 clay:1", "bore b 1 0 clay:1 silt:1", "like clay clay 5", earlier])
                self.assertEqual(desk.say("threads"), "a.0 b.1; a.1; b.0")
                self.assertEqual(desk.say(later), "ok")
                self.assertEqual(desk.say("threads"), "a.0; a.1 b.0; b.1")
                self.assertEqual(desk.say(earlier), "ok")
                self.assertEqual(desk.say("threads"), "a.0 b.1; a.1; b.0")

    def test_of_a_mark_and_itself_in_the_place_of_an_earlier_one(self):
        desk = desk_of(["bore a 0 0 sand:1 clay:1", "bore b 1 0 clay:1 sand:1", "like sand sand 3", "like clay clay 4"])
        self.assertEqual(desk.say("threads"), "a.0; a.1 b.0; b.1")
        desk.say("like clay clay 2")
        self.assertEqual(desk.say("threads"), "a.0 b.1; a.1; b.0")

    def test_other_marks_stay(self):
        desk = desk_of(["like sand silt 2", "like sand marl 3", "like sand silt 4"])
        for row in ("bore a 0 0 sand:1", "bore b 1 0 marl:1 / silt:1"):
            desk.say(row)
        self.assertEqual(desk.say("threads"), "a.0 b.1; b.0")
        desk.say("like silt sand 2")
        self.assertEqual(desk.say("threads"), "a.0 b.0; b.1")

    def test_points_of_one_figure_from_one_to_nine(self):
        strange = ("0", "10", "01", "00", "-1", "+1", "1.0", "x", "99", "")
        self.assert_no_text([f"like a b {points}" for points in strange])
        self.assert_no_text(["like a b", "like a b 1 1", "like a 1", "like 1 a b", "like a B 1", "like a abcdefghi 1"])
        for points in "123456789":
            self.assertEqual(Desk().say(f"like a b {points}"), "ok")

    def test_refused_ones_stand_in_no_place(self):
        desk = desk_of(["bore a 0 0 sand:1 clay:1", "bore b 1 0 clay:1 silt:1", "like sand silt 5"])
        for row in ("like sand silt 0", "like silt sand 10", "like sand silt 1 "):
            self.assert_refused(desk, row, NoText)
            self.assertEqual(desk.say("threads"), "a.0 b.1; a.1; b.0")


class HowTwoLie(Refusing):
    def test_each_two_layers(self):
        desk = desk_of(ROWS)
        known = leads(shown(RECORDS))
        words = set()
        for spot in spots(RECORDS):
            for other in spots(RECORDS):
                word = lie(known, spot, other)
                words.add(word)
                self.assertEqual(desk.say(f"lies {spot[0]}.{spot[1]} {other[0]}.{other[1]}"), word)
        self.assertEqual(words, {"over", "under", "one", "open"})

    def test_spots_that_are_none(self):
        desk = desk_of(ROWS)
        for spot in ("c.0", "a.3", "b.2", f"b.{GREATEST}", "sand.0"):
            for row in (f"lies {spot} a.0", f"lies a.0 {spot}", f"lies {spot} {spot}"):
                self.assert_refused(desk, row, Unknown)
        self.assert_refused(Desk(), "lies a.0 a.0", Unknown)


class Orders(Refusing):
    def test_nothing_to_tell(self):
        self.assertEqual(Desk().say("order"), "-")
        self.assertEqual(desk_of(["like a b 1"]).say("order"), "-")

    def test_one_order_alone(self):
        self.assertEqual(desk_of(["bore a 0 0 b:1"]).say("order"), "a.0")
        desk = desk_of(["bore a 5 0 " + " ".join(["b:1"] * 12)])
        self.assertEqual(desk.say("order"), " ".join([f"a.{number}" for number in range(12)]))
        desk = desk_of(["bore a 5 0 b:1 / b:1", "bore c 6 0 b:1", "over a.1 c.0", "over c.0 a.0"])
        self.assertEqual(desk.say("order"), "a.1 c.0 a.0")

    def test_any_order(self):
        told = spots_told(desk_of(ROWS).say("order"))
        self.assertTrue(is_order(RECORDS, told))
        self.assertTrue(stand_well(leads(shown(RECORDS)), told))


class Threads(Refusing):
    def test_nothing_to_tell(self):
        self.assertEqual(Desk().say("threads"), "-")
        self.assertEqual(desk_of(["like a b 1"]).say("threads"), "-")

    def test_one_bore(self):
        self.assertEqual(desk_of(["bore a 0 0 b:1"]).say("threads"), "a.0")
        self.assertEqual(desk_of(["bore a 0 0 b:1 / b:1"]).say("threads"), "a.0; a.1")

    def test_by_place(self):
        desk = desk_of(["bore b 30 0 sand:1 clay:1", "bore a 4 0 marl:1 / clay:2", "bore c 7 0 clay:3"])
        self.assertEqual(desk.say("threads"), "a.0; a.1 c.0 b.1; b.0")

    def test_sayings_say_nothing_of_threads(self):
        desk = desk_of(["bore a 0 0 sand:1", "bore b 1 0 clay:1"])
        self.assertEqual(desk.say("threads"), "a.0; b.0")
        desk.say("one a.0 b.0")
        self.assertEqual(desk.say("threads"), "a.0; b.0")


class Doubled(Refusing):
    def test_no_faults(self):
        self.assertEqual(desk_of(["bore a 0 0 sand:1"]).say("doubled a"), "-")
        self.assertEqual(desk_of(["bore a 0 0 sand:1 sand:1"]).say("doubled a"), "-")

    def test_a_fault_without_pairs(self):
        self.assertEqual(desk_of(["bore a 0 0 sand:1 / clay:1"]).say("doubled a"), "-")
        self.assertEqual(desk_of(["bore a 0 0 sand:1 / clay:1 / sand:1"]).say("doubled a"), "-; -")

    def test_pairs(self):
        self.assertEqual(desk_of(["bore a 0 0 sand:1 / sand:1"]).say("doubled a"), "0-1")
        desk = desk_of(["bore a 0 0 sand:1 clay:1 / sand:1 clay:2 / marl:1 / silt:1 marl:1"])
        self.assertEqual(desk.say("doubled a"), "0-2 1-3; -; 4-6")
        desk.say("like marl clay 2")
        self.assertEqual(desk.say("doubled a"), "0-2 1-3; 3-4; 4-6")

    def test_this_bore(self):
        desk = desk_of(["bore a 9 0 sand:1 / sand:1", "bore b 0 0 clay:1 sand:1 / sand:1"])
        self.assertEqual([desk.say("doubled a"), desk.say("doubled b")], ["0-1", "1-2"])

    def test_a_name_that_is_no_bores(self):
        desk = desk_of(ROWS)
        for name in ("c", "sand", "aa", "doubled", "abcdefgh"):
            self.assert_refused(desk, f"doubled {name}", Unknown)
        self.assert_refused(Desk(), "doubled a", Unknown)


class At(Refusing):
    def desk(self):
        # Told out of their order by place: a at 10, b at 20, c at 40.
        return desk_of([
            "bore c 40 5 sand:8 marl:1", "bore a 10 7 sand:3 / clay:2", "bore b 20 6 clay:1 sand:4", "like sand marl 1",
        ])

    def test_at_the_first_bores_place(self):
        self.assertEqual(self.desk().say("at 10"), "0:1=3/1 1:-=2/1")

    def test_between_two(self):
        self.assertEqual(self.desk().say("at 15"), "-:0=1/2 0:1=7/2 1:-=1/1")
        self.assertEqual(self.desk().say("at 13"), "-:0=3/10 0:1=33/10 1:-=7/5")
        self.assertEqual(self.desk().say("at 30"), "0:-=1/2 1:0=6/1 -:1=1/2")

    def test_at_the_place_of_one_between(self):
        self.assertEqual(self.desk().say("at 20"), "0:-=1/1 1:0=4/1")

    def test_at_the_last_ones_place(self):
        self.assertEqual(self.desk().say("at 40"), "1:0=8/1 -:1=1/1")

    def test_outside(self):
        for place in (0, 1, 9, 41, 100, GREATEST):
            self.assert_refused(self.desk(), f"at {place}", Unknown)

    def test_of_two_bores(self):
        desk = desk_of(["bore a 0 0 sand:1", f"bore b {GREATEST} 0 clay:1"])
        self.assertEqual(desk.say("at 0"), "0:-=1/1")
        self.assertEqual(desk.say(f"at {GREATEST}"), "-:0=1/1")
        self.assertEqual(desk.say("at 9"), f"0:-={GREATEST // 9 - 1}/{GREATEST // 9} -:0=1/{GREATEST // 9}")

    def test_of_fewer_than_two_bores(self):
        for place in (0, 5, 9):
            self.assert_refused(Desk(), f"at {place}", Unknown)
            self.assert_refused(desk_of(["bore a 5 0 sand:1"]), f"at {place}", Unknown)

    def test_the_likes_that_stand(self):
        desk = desk_of(["bore a 0 0 sand:1 clay:3", "bore b 2 0 clay:1 silt:5"])
        self.assertEqual(desk.say("at 1"), "0:-=1/2 1:0=2/1 -:1=5/2")
        desk.say("like silt sand 2")
        self.assertEqual(desk.say("at 1"), "-:0=1/2 0:1=3/1 1:-=3/2")


class NoRows(Refusing):
    def test_no_text(self):
        self.assert_no_text([None, True, 0, 7, b"order", ["order"], ("order",), {}, {"order": True}, Desk, Desk()])

    def test_other_words(self):
        self.assert_no_text(["", "x", "Order", "ORDER", "orders", "ask", "layer sand 1", "fault", "-", "chain a.0 a.1"])

    def test_blanks(self):
        for row in ROWS + ASKS:
            words = row.split(" ")
            self.assert_no_text([" " + row, row + " "])
            self.assert_no_text([" ".join(words[:n]) + "  " + " ".join(words[n:]) for n in range(1, len(words))])
        self.assert_no_text([" ", "  "])

    def test_tabs_and_line_feeds(self):
        for row in ROWS + ASKS:
            for sign in ("\n", "\t", "\r"):
                self.assert_no_text([row[:n] + sign + row[n:] for n in range(len(row) + 1)])
                self.assert_no_text([row.replace(" ", sign, 1) + sign, row + sign + row])
        self.assert_no_text(["\n", "order\norder", "\torder"])

    def test_words_too_few_and_too_many(self):
        for row in ROWS[2:] + ASKS:
            words = row.split(" ")
            self.assert_no_text([row + " a", row + " 1", row + " a.0", row + " " + words[-1]])
            self.assert_no_text([" ".join(words[:count]) for count in range(1, len(words))])

    def test_numbers(self):
        for number in ("00", "01", "-1", "+1", "1.5", "1_0", "x", "0x1", "a.0", "a:1", "1" * 61, "\u0661", "\u00b2"):
            self.assert_no_text([
                f"bore c {number} 0 a:1", f"bore c 0 {number} a:1", f"bore c 0 0 a:{number}", f"at {number}",
                f"one a.{number} a.0", f"over a.0 a.{number}", f"lies a.{number} a.0", f"lies a.0 a.{number}",
            ])

    def test_names(self):
        for name in ("abcdefghi", "A", "a1", "1", "-", "a-b", "/", "a.0", "a:1", "\u00e9"):
            self.assert_no_text([
                f"bore {name} 0 0 a:1", f"bore c 0 0 {name}:1", f"doubled {name}", f"like {name} a 1",
                f"like a {name} 1", f"one {name}.0 a.0", f"over a.0 {name}.0", f"lies {name}.0 a.0",
            ])

    def test_spots(self):
        for spot in ("a", "a.", ".0", ".", "a.0.", ".a.0", "a..0", "a.0.0", "a:0", "0.a", "a0", "a,0", "(a,0)"):
            for word in ("one", "over", "lies"):
                self.assert_no_text([f"{word} {spot} a.0", f"{word} a.0 {spot}"])

    def test_layers(self):
        self.assert_no_text(["bore", "bore c", "bore c 0", "bore c 0 0"])
        for layers in ("/", "/ /", "/ a:1", "a:1 /", "/ a:1 /", "a:1 / / a:1", "a:1 / a:1 /", "/ a:1 / a:1"):
            self.assert_no_text([f"bore c 0 0 {layers}"])
        strange = ("a", "a:", ":1", ":", "a:1:", "a:1:1", "a::1", "1:a", "a.1", "-", "fault", "bore", "layer:a:1")
        for layer in strange + ("\\", "|", "//", "a:1/", "/a:1", "a:1/a:1", "/:1", "a:/"):
            for layers in (layer, f"a:1 {layer}", f"{layer} a:1", f"a:1 / {layer}", f"{layer} / a:1"):
                self.assert_no_text([f"bore c 0 0 {layers}"])

    def test_form_goes_ahead_of_the_deed(self):
        self.assert_no_text([
            "bore a 10 0 sand:0 clay", "bore a 10 0 sand:1 /", "bore a 10 0 sand:0 /", "one c.0 c", "over a.0 a.00",
            "lies c.9 c.09", "doubled C", "at 09",
        ])

    def test_sixty_figures_and_eight_letters_are_no_too_many(self):
        desk = Desk()
        self.assertEqual(desk.say(f"bore abcdefgh {GREATEST} {GREATEST} zyxwvuts:{GREATEST}"), "1")
        self.assertEqual(desk.say("order"), "abcdefgh.0")


class WhatIsRefused(Refusing):
    def test_changes_nothing(self):
        desk = desk_of(ROWS)
        kept = [desk.say(row) for row in ASKS]
        refused = [
            ("bore c 20 0 sand:0", Unfit), ("bore a 99 0 sand:1", Twice), ("bore c 10 0 sand:1", Twice),
            ("one a.9 a.0", Unknown), ("over c.0 c.0", Unknown), ("over b.1 a.0", Clash), ("one a.0 a.1", Clash),
            ("lies c.0 a.0", Unknown), ("doubled c", Unknown), ("at 9", Unknown), ("at 31", Unknown),
            ("like sand silt 0", NoText), ("bore c 20 0", NoText), (None, NoText),
        ]
        for row, error in refused:
            self.assert_refused(desk, row, error)
            self.assertEqual([desk.say(ask) for ask in ASKS], kept)
        self.assertEqual(desk.say("bore c 20 0 sand:1"), "5")


class TwoDesks(Refusing):
    def test_know_nothing_of_one_another(self):
        first, second = Desk(), Desk()
        for row in ROWS:
            first.say(row)
        self.assertEqual([second.say("order"), second.say("threads")], ["-", "-"])
        self.assertEqual(second.say("bore a 10 0 sand:1"), "1")
        self.assertEqual(second.say("bore d 12 0 silt:1"), "2")
        # The like that the first one was told of is none of the second one's.
        self.assertEqual(second.say("threads"), "a.0; d.0")
        self.assert_refused(first, "doubled d", Unknown)
        self.assertEqual(first.say("one a.0 a.0"), "5")

    def test_row_by_its_name(self):
        self.assertEqual(Desk().say(row="order"), "-")


class ManyDesks(Refusing):
    def turning_bores(self, turning):
        bores = []
        for number in range(1 + turning.below(5)):
            sizes = [1 + turning.below(3) for block in range(1 + turning.below(3))]
            blocks = [tuple([(turning.one_of(MARKS), 1 + turning.below(9)) for n in range(size)]) for size in sizes]
            bores.append(("abcde"[number], 7 * turning.below(9) + number, turning.below(99), tuple(blocks)))
        return tuple(bores)

    def row_of(self, bore):
        blocks = " / ".join([" ".join([f"{mark}:{thick}" for mark, thick in block]) for block in bore[3]])
        return f"bore {bore[0]} {bore[1]} {bore[2]} {blocks}"

    def test_tell_what_the_field_tells(self):
        for seed in range(1, 60):
            turning = Turning(seed * 31)
            field = (self.turning_bores(turning), LIKES[:turning.below(4)])
            rows = [self.row_of(each) for each in field[0]] + [f"like {one} {other} {n}" for one, other, n in field[1]]
            # Neither the order of the bores nor that of the likes says anything here.
            desk = desk_of(rows if seed % 2 else rows[::-1])
            self.assert_threads(desk, field)
            self.assert_doubled(desk, field)
            self.assert_bored(desk, field)

    def assert_threads(self, desk, field):
        told = [spots_told(thread) for thread in desk.say("threads").split("; ")]
        self.assertEqual(told, threads(field))

    def assert_doubled(self, desk, field):
        for each in field[0]:
            faults = [" ".join([f"{one}-{other}" for one, other in pairs]) or "-" for pairs in doubled(each, field[1])]
            self.assertEqual(desk.say(f"doubled {each[0]}"), "; ".join(faults) or "-")

    def assert_bored(self, desk, field):
        bores = sorted(field[0], key=lambda each: each[1])
        for place in range(75):
            if len(bores) < 2 or not bores[0][1] <= place <= bores[-1][1]:
                self.assert_refused(desk, f"at {place}", Unknown)
            else:
                ahead = max([n for n, each in enumerate(bores[:-1]) if each[1] <= place])
                self.assertEqual(desk.say(f"at {place}"), self.bored(bores[ahead], bores[ahead + 1], field[1], place))

    def bored(self, left, right, likes, place):
        marks = [[mark for block in each[3] for mark, thick in block] for each in (left, right)]
        told = []
        for (one, other), (top, bottom) in bored_at(left, right, liken(likes, marks[0], marks[1]), place):
            told.append(f"{one}:{other}={top}/{bottom}".replace("None", "-"))
        return " ".join(told)


if __name__ == "__main__":
    unittest.main()
