"""From a text to the end: a field that is read, its threads, its sheets by their ties, an order with the ties."""

import unittest

import bores.depths
import bores.desk
import bores.fields
import bores.likening
import bores.orders
import bores.ratios
import bores.reader
import bores.sheets
import bores.steps
import bores.survey
import bores.threads
import bores.words
import bores.writer
from bores.depths import by_place
from bores.orders import chain, is_order, lies, order_with, settle
from bores.ratios import plus
from bores.reader import read
from bores.sheets import bored_at, lines_at, sheets, thick_at, whole_at
from bores.survey import Survey
from bores.threads import threads
from bores.writer import show
from tests.plainly import Turning, has_ring, leads, lie, shown, spots, stand_well

# Each name of the interface, with its arguments' names.
INTERFACE = {
    bores.words: "is_name(word) is_number(word) words_of(row) rows_of(text)",
    bores.fields: "bore_fits(bore) fits(field) fitted(field) points_of(likes,mark,other)",
    bores.depths: "layers_of(bore) block_ends(bore) depths(bore) whole(bore) by_place(field)",
    bores.reader: "read(text)",
    bores.writer: "show(field)",
    bores.ratios: "ratio(top,bottom) plus(one,other) minus(one,other) less(one,other)",
    bores.sheets: """sheets(left,right,pairs) thick_at(left,right,pairs,place) whole_at(left,right,place)
        ground_at(left,right,place) lines_at(left,right,pairs,place) bored_at(left,right,pairs,place)""",
    bores.likening: "worth(likes,row,other,pairs) table(likes,row,other) liken(likes,row,other)",
    bores.threads: "threads(field) doubled(bore,likes)",
    bores.steps: """spots_of(records) steps_of(records) begin_of(records,step) end_of(records,step)
        is_chain(records,steps) is_strict(steps)""",
    bores.orders: """settle(records) is_order(records,spots) lies(records,spot,other) chain(records,spot,other)
        order_with(records,spot,other)""",
}
METHODS = {
    bores.survey.Survey: "put(self,record) records(self) lies(self,spot,other) chain(self,spot,other) order(self)",
    bores.desk.Desk: "say(self,row)",
}

TEXT = """bore west 10 118
layer silt 4
layer clay 2
fault
layer clay 3
bore east 40 120
layer sand 3
layer marl 2
layer clay 5
bore mid 20 110
layer clay 1
fault
layer sand 6
layer clay 2
like sand silt 5"""
MARKS = ("sand", "silt", "clay", "marl", "chalk")


def turning_text(seed, count, most, marks):
    # A field's text without a plain pattern, the same each time.
    turning = Turning(seed)
    rows = []
    for number in range(count):
        rows.append(f"bore {'abcdefghijkl'[number]} {count * turning.below(9) + number} {turning.below(200)}")
        for layer in range(1 + turning.below(most)):
            if layer and not turning.below(3):
                rows.append("fault")
            rows.append(f"layer {turning.one_of(marks)} {1 + turning.below(20)}")
    for number, mark in enumerate(marks):
        if not turning.below(3):
            rows.append(f"like {mark} {turning.one_of(marks[number:])} {1 + turning.below(9)}")
    return "\n".join(rows)


TEXTS = [TEXT, "", "like sand silt 5", "bore a 0 0\nlayer sand 1"] + [
    turning_text(seed * 17 + count, count, most, marks)
    for seed in range(1, 25)
    for count, most in ((1, 5), (2, 6), (4, 4), (12, 5))
    for marks in (MARKS[:2], MARKS)
]


def ties_of(field):
    return [tie for thread in threads(field) for tie in zip(thread, thread[1:])]


def records_with_ties(field):
    return list(field[0]) + [("one", spot, other) for spot, other in ties_of(field)]


def pairs_between(field, left, right):
    return sorted([(one[1], other[1]) for one, other in ties_of(field) if (one[0], other[0]) == (left[0], right[0])])


class Interface(unittest.TestCase):
    def assert_there(self, owner, listed):
        for word in listed.split():
            name, arguments = word.rstrip(")").split("(")
            code = getattr(owner, name).__code__
            self.assertEqual(",".join(code.co_varnames[:code.co_argcount]), arguments, word)

    def test_each_name_is_there(self):
        for module, listed in INTERFACE.items():
            self.assert_there(module, listed)
        for kind, listed in METHODS.items():
            self.assert_there(kind, listed)

    def test_made_of_nothing(self):
        self.assertEqual(bores.survey.Survey().records(), [])
        self.assertEqual(bores.desk.Desk().say("order"), "-")


class OneText(unittest.TestCase):
    def setUp(self):
        self.field = read(TEXT)
        self.records = records_with_ties(self.field)

    def test_threads(self):
        self.assertEqual(
            threads(self.field),
            [
                [("west", 0), ("mid", 1), ("east", 0)],
                [("west", 1), ("mid", 2), ("east", 2)],
                [("west", 2)],
                [("mid", 0)],
                [("east", 1)],
            ],
        )

    def test_sheets(self):
        west, mid, east = by_place(self.field)
        pairs = pairs_between(self.field, west, mid)
        self.assertEqual(pairs, [(0, 1), (1, 2)])
        self.assertEqual(sheets(west, mid, pairs), [(None, 0), (0, 1), (1, 2), (2, None)])
        self.assertEqual(thick_at(west, mid, pairs, 15), [(1, 2), (5, 1), (2, 1), (3, 2)])
        self.assertEqual(pairs_between(self.field, mid, east), [(1, 0), (2, 2)])

    def test_orders(self):
        row = settle(self.records)
        self.assertEqual(row[0], "order")
        self.assertTrue(is_order(self.records, row[1]))
        self.assertEqual(lies(self.records, ("mid", 1), ("east", 1)), "over")
        self.assertEqual(chain(self.records, ("mid", 2), ("west", 0)), chain(self.records, ("west", 0), ("mid", 2)))
        self.assertEqual(lies(self.records, ("west", 1), ("east", 2)), "one")
        for pair in ((("mid", 0), ("west", 2)), (("west", 2), ("mid", 0))):
            self.assertEqual(lies(self.records, *pair), "open")
            told = order_with(self.records, *pair)
            self.assertTrue(is_order(self.records, told))
            self.assertLess(told.index(pair[0]), told.index(pair[1]))


class ManyTexts(unittest.TestCase):
    def setUp(self):
        self.fields = [read(text) for text in TEXTS]

    def test_there_are_many(self):
        self.assertEqual([show(field) for field in self.fields], TEXTS)
        self.assertGreater(max([len(ties_of(field)) for field in self.fields]), 30)
        self.assertGreater(max([len(bore[3]) for field in self.fields for bore in field[0]]), 2)

    def test_the_ties_leave_an_order(self):
        for field in self.fields:
            records = records_with_ties(field)
            self.assertFalse(has_ring(shown(records)))
            word, row = settle(records)
            self.assertEqual(word, "order")
            self.assertEqual(sorted(row), sorted(spots(records)))
            self.assertTrue(stand_well(leads(shown(records)), row))
            self.assertTrue(is_order(records, row))

    def test_a_survey_refuses_none_of_them(self):
        for field in self.fields:
            survey = Survey()
            records = records_with_ties(field)
            self.assertEqual([survey.put(record) for record in records], list(range(1, len(records) + 1)))
            self.assertTrue(is_order(survey.records(), survey.order()))

    def test_threads_stand_side_by_side(self):
        for field in self.fields:
            row = settle(records_with_ties(field))[1]
            for thread in threads(field):
                places = sorted([row.index(spot) for spot in thread])
                self.assertEqual(places, list(range(places[0], places[0] + len(thread))))

    def test_layers_of_a_thread_are_one_and_no_others(self):
        for field in self.fields[::5]:
            records = records_with_ties(field)
            known = leads(shown(records))
            owners = {spot: n for n, thread in enumerate(threads(field)) for spot in thread}
            for spot in list(owners)[:12]:
                for other in owners:
                    word = lies(records, spot, other)
                    self.assertEqual(word == "one", owners[spot] == owners[other])
                    self.assertEqual(word, lie(known, spot, other))

    def test_the_sheets_of_the_ties_add_up_to_the_whole(self):
        for field in self.fields:
            row = by_place(field)
            for left, right in zip(row, row[1:]):
                pairs = pairs_between(field, left, right)
                for place in {left[1], (left[1] + right[1]) // 2, right[1]}:
                    self.assert_adds_up(left, right, pairs, place)

    def assert_adds_up(self, left, right, pairs, place):
        for thicks in (
            thick_at(left, right, pairs, place),
            [thick for sheet, thick in bored_at(left, right, pairs, place)],
        ):
            total = (0, 1)
            for thick in thicks:
                total = plus(total, thick)
            self.assertEqual(total, whole_at(left, right, place))
        lines = lines_at(left, right, pairs, place)
        self.assertEqual(plus(lines[-1], whole_at(left, right, place)), lines[0])

    def test_the_sheets_of_the_ties_hold_the_threads(self):
        for field in self.fields:
            row = by_place(field)
            for left, right in zip(row, row[1:]):
                drawn = sheets(left, right, pairs_between(field, left, right))
                both = [((left[0], one), (right[0], other)) for one, other in drawn if None not in (one, other)]
                self.assertEqual(both, sorted([tie for tie in ties_of(field) if tie[0][0] == left[0]]))


if __name__ == "__main__":
    unittest.main()
