import itertools
import time
import unittest

from bores.errors import BoreError, Clash, Twice, Unfit, Unknown
from bores.survey import Survey
from tests.plainly import (
    Turning, bore, has_ring, is_ring, is_the_askers_own, leads, lie, lie_as_told, shown, shown_by, shows, spots,
    stand_well, turning_records,
)

GREATEST = 10 ** 60 - 1
A = bore("a", 5, [2, 1])
B = bore("b", 2, [2])
LAYER = ("sand", 1)
UNFIT = (
    ("", 9, 0, ((LAYER,),)),
    ("c" * 9, 9, 0, ((LAYER,),)),
    ("C", 9, 0, ((LAYER,),)),
    ("c d", 9, 0, ((LAYER,),)),
    ("c", -1, 0, ((LAYER,),)),
    ("c", 9, -1, ((LAYER,),)),
    ("c", 9, 0, ()),
    ("c", 9, 0, ((),)),
    ("c", 9, 0, ((LAYER,), ())),
    ("c", 9, 0, ((LAYER, ("sand", 0)),)),
    ("c", 9, 0, ((("", 1),),)),
    ("c", 9, 0, ((LAYER,), (("Sand", 1),))),
)


def over(spot, other):
    return ("over", spot, other)


def one(spot, other):
    return ("one", spot, other)


def survey_of(records):
    told = Survey()
    for record in records:
        told.put(record)
    return told


def bores_first(records):
    return sorted(records, key=len, reverse=True)


def records_with_a_new_one_each(seed, sizes, sayings):
    # The same bores and sayings, the sayings as soon as the bores of their spots are there.
    told = []
    waiting = turning_records(seed, sizes, sayings)
    while waiting:
        there = spots(told)
        free = [each for each in waiting if len(each) == 4 or (each[1] in there and each[2] in there)]
        told.append(free[-1])
        waiting.remove(free[-1])
    return told


# Records few enough for all choices of them to be tried out one by one.
SIZES = ([[2], [1]], [[1, 1], [2]], [[3], [2]], [[2, 1], [1, 1]], [[2], [2], [2]], [[3, 2, 1]])
MANY = [records_with_a_new_one_each(seed, sizes, 5) for seed in range(1, 25) for sizes in SIZES]


def all_least(records):
    # All choices of the records, as lists of their numbers, that have a ring, and none with any one left out.
    numbers = range(1, len(records) + 1)
    choices = [set(some) for count in range(len(records) + 1) for some in itertools.combinations(numbers, count)]
    least = []
    for some in choices:
        # The smaller ones come first: so none that is tried here holds a ring within it that isn't found yet.
        if not any([found <= some for found in least]) and has_ring(shown_by(records, some)):
            least.append(some)
    return [sorted(found) for found in least]


class PutIn(unittest.TestCase):
    def test_at_first_none(self):
        survey = Survey()
        self.assertEqual(survey.records(), [])
        self.assertEqual(survey.order(), [])

    def test_numbers_from_one_on(self):
        survey = Survey()
        records = [B, over(("b", 0), ("b", 1)), A, one(("a", 2), ("b", 1)), one(("a", 2), ("b", 1))]
        self.assertEqual([survey.put(record) for record in records], [1, 2, 3, 4, 5])
        self.assertEqual(survey.records(), records)

    def test_numbers_behind_refusals(self):
        survey = survey_of([B])
        refused = [
            (B, Twice),
            (UNFIT[0], Unfit),
            (one(("a", 0), ("b", 0)), Unknown),
            (over(("b", 1), ("b", 0)), Clash),
        ]
        for number, (record, error) in enumerate(refused):
            with self.assertRaises(error):
                survey.put(record)
            self.assertEqual(survey.put(one(("b", 0), ("b", 0))), number + 2)

    def test_bores_named_like_words(self):
        records = [bore("one", 3, [2]), bore("over", 2, [1, 1]), bore("row", 1, [1]), over(("over", 1), ("one", 0))]
        survey = survey_of(records)
        self.assertEqual(survey.records(), records)
        self.assertEqual(survey.lies(("one", 1), ("over", 1)), "under")

    def test_bore_that_does_not_fit(self):
        survey = survey_of([A])
        for record in UNFIT:
            self.assert_refused(survey, record, Unfit)

    def test_bore_that_does_not_fit_and_is_there_too(self):
        survey = survey_of([A, bore("c", 9, [1])])
        for record in UNFIT + (("a", 5, -1, A[3]), ("a", 7, 0, ((("sand", 0),),)), ("d", 5, 0, ())):
            self.assert_refused(survey, record, Unfit)

    def test_bore_of_a_name_or_a_place_that_is_there(self):
        survey = survey_of([A, over(("a", 0), ("a", 2)), B])
        for record in (A, B, ("a", 6, 0, B[3]), ("b", 1, 7, B[3]), ("c", 5, 7, B[3]), ("c", 2, 7, A[3])):
            self.assert_refused(survey, record, Twice)
        self.assert_refused(survey, ("a", 2, 1, A[3]), Twice)
        self.assertEqual(survey.put(bore("c", 7, [1])), 4)
        self.assertEqual(survey.put(("d", 8, 7, A[3])), 5)

    def test_places_that_are_great(self):
        survey = survey_of([bore("a", GREATEST, [1]), bore("b", 0, [1])])
        self.assert_refused(survey, bore("c", GREATEST, [1]), Twice)
        self.assert_refused(survey, bore("c", 0, [1]), Twice)
        self.assertEqual(survey.put(bore("c", GREATEST - 1, [1])), 3)

    def test_saying_of_a_spot_that_is_no_layers(self):
        survey = survey_of([A, B])
        strange = [
            ("c", 0), ("", 0), ("A", 0), ("one", 0), ("a" * 9, 0), ("b", -1), ("b", 2), ("a", 3), ("a", GREATEST),
            ("a", -GREATEST), ("a.0", 0), ("a\n", 0),
        ]
        for spot in strange:
            for record in (one(spot, ("a", 0)), one(("a", 0), spot), over(spot, ("b", 1)), over(("b", 1), spot)):
                self.assert_refused(survey, record, Unknown)

    def test_saying_where_there_are_no_bores(self):
        self.assert_refused(Survey(), one(("a", 0), ("a", 0)), Unknown)

    def test_saying_that_is_unknown_and_would_clash(self):
        survey = survey_of([A, B])
        for spot in (("c", 0), ("b", 2), ("b", -1)):
            self.assert_refused(survey, over(spot, spot), Unknown)
            self.assert_refused(survey, over(spot, ("b", 0)), Unknown)

    def test_saying_of_a_layer_that_comes_to_be_later(self):
        survey = survey_of([A])
        saying = one(("b", 1), ("a", 2))
        self.assert_refused(survey, saying, Unknown)
        self.assertEqual(survey.put(B), 2)
        self.assertEqual(survey.put(saying), 3)
        self.assertEqual(survey.lies(("b", 0), ("a", 2)), "over")

    def test_a_bore_makes_no_ring(self):
        for records in MANY:
            survey = survey_of(bores_first(records)[:1])
            for record in bores_first(records)[1:]:
                if len(record) == 4:
                    survey.put(record)
            self.assertEqual(len(survey.records()), len([each for each in records if len(each) == 4]))

    def assert_refused(self, survey, record, error):
        kept = survey.records()
        with self.assertRaises(BoreError) as caught:
            survey.put(record)
        self.assertIs(type(caught.exception), error)
        self.assertEqual(survey.records(), kept)


class Clashes(unittest.TestCase):
    def clash_of(self, survey, saying):
        layers = spots(survey.records())
        known = [survey.lies(spot, other) for spot in layers for other in layers]
        clash = self.refused(survey, saying)
        self.assertEqual([survey.lies(spot, other) for spot in layers for other in layers], known)
        return clash

    def refused(self, survey, saying):
        kept = survey.records()
        with self.assertRaises(Clash) as caught:
            survey.put(saying)
        self.assertEqual(survey.records(), kept)
        self.assert_clash(kept + [saying], caught.exception)
        return caught.exception

    def assert_clash(self, records, clash):
        numbers = clash.numbers
        self.assertEqual(numbers, sorted(set(numbers)))
        self.assertIn(len(records), numbers)
        self.assertTrue(is_ring(records, clash.ring))
        owners = {step: number for number, step, begin, end in shown(records)}
        self.assertEqual(sorted({owners[step] for step in clash.ring}), numbers)
        self.assertTrue(has_ring(shown_by(records, numbers)))
        for number in numbers:
            self.assertFalse(has_ring(shown_by(records, set(numbers) - {number})))

    def test_of_the_refused_saying_alone(self):
        survey = survey_of([A, one(("a", 0), ("a", 2)), B])
        for spot in spots([A, B]):
            clash = self.clash_of(survey, over(spot, spot))
            self.assertEqual((clash.numbers, clash.ring), ([4], [("over", 4)]))

    def test_of_a_bore_and_the_refused_saying(self):
        survey = survey_of([A, bore("c", 0, [1]), B])
        clash = self.clash_of(survey, over(("b", 1), ("b", 0)))
        self.assertEqual(clash.numbers, [3, 4])
        self.assertEqual(sorted(clash.ring), [("over", 4), ("row", "b", 0)])
        for saying in (one(("b", 1), ("b", 0)), one(("b", 0), ("b", 1))):
            self.assertEqual(self.clash_of(survey, saying).numbers, [3, 4])

    def test_of_two_sayings(self):
        survey = survey_of([A, B, over(("a", 2), ("b", 0))])
        self.assertEqual(self.clash_of(survey, over(("b", 0), ("a", 2))).numbers, [3, 4])
        self.assertEqual(self.clash_of(survey, one(("b", 0), ("a", 2))).numbers, [3, 4])
        self.assertEqual(self.clash_of(survey, one(("a", 2), ("b", 0))).numbers, [3, 4])
        survey.put(one(("a", 0), ("b", 1)))
        self.assertEqual(self.clash_of(survey, over(("a", 0), ("b", 1))).numbers, [4, 5])
        self.assertEqual(self.clash_of(survey, over(("b", 1), ("a", 0))).numbers, [4, 5])

    def test_of_several(self):
        survey = survey_of([A, over(("a", 1), ("a", 2)), B, one(("a", 2), ("b", 0))])
        self.assertEqual(self.clash_of(survey, over(("b", 0), ("a", 0))).numbers, [1, 2, 4, 5])
        self.assertEqual(self.clash_of(survey, over(("b", 0), ("a", 1))).numbers, [2, 4, 5])
        self.assertEqual(self.clash_of(survey, one(("b", 1), ("a", 0))).numbers, [1, 2, 3, 4, 5])
        self.assertEqual(self.clash_of(survey, one(("a", 0), ("b", 1))).numbers, [1, 2, 3, 4, 5])

    def test_a_short_ring_may_be_of_records_too_many(self):
        # Back from a.4 to a.0 it is a short way over b and c; but with fewer records along the row of a.
        records = [
            bore("a", 0, [5]), bore("b", 1, [1]), bore("c", 2, [1]), over(("a", 0), ("b", 0)), over(("b", 0), ("a", 4)),
            over(("a", 0), ("c", 0)), one(("c", 0), ("a", 1)),
        ]
        clash = self.clash_of(survey_of(records), over(("a", 4), ("a", 0)))
        self.assertIn(clash.numbers, [[1, 8], [4, 5, 8]])
        self.assertEqual(self.clash_of(survey_of(records), over(("a", 3), ("a", 0))).numbers, [1, 8])

    def test_a_way_back_that_leaves_its_bore_and_comes_again(self):
        # The shortest ring is by b and two sayings; those can be left out, as a is in it anyway.
        records = [bore("a", 0, [7]), bore("b", 1, [1]), over(("a", 1), ("b", 0)), over(("b", 0), ("a", 5))]
        self.assertEqual(self.clash_of(survey_of(records), over(("a", 6), ("a", 0))).numbers, [1, 5])

    def test_one_record_too_many_in_a_short_ring(self):
        records = [bore("a", 0, [10]), over(("a", 2), ("a", 8))]
        for ends in ((("a", 9), ("a", 0)), (("a", 8), ("a", 1))):
            self.assertEqual(self.clash_of(survey_of(records), over(*ends)).numbers, [1, 3])
            self.assertEqual(self.clash_of(survey_of(records), one(*ends)).numbers, [1, 3])
            self.assertEqual(self.clash_of(survey_of(records), one(*ends[::-1])).numbers, [1, 3])

    def test_some_records_too_many_and_some_that_are_needed(self):
        records = [
            bore("a", 0, [6]), over(("a", 1), ("a", 4)), bore("b", 1, [6]), one(("b", 0), ("a", 5)),
            over(("b", 2), ("b", 4)), over(("b", 1), ("b", 3)),
        ]
        for ends in ((("b", 5), ("a", 0)), (("b", 4), ("a", 1))):
            self.assertEqual(self.clash_of(survey_of(records), over(*ends)).numbers, [1, 3, 4, 7])
            self.assertEqual(self.clash_of(survey_of(records), one(*ends)).numbers, [1, 3, 4, 7])
            self.assertEqual(self.clash_of(survey_of(records), one(*ends[::-1])).numbers, [1, 3, 4, 7])

    def test_bores_named_like_words(self):
        records = [
            bore("one", 0, [2]), bore("over", 1, [2]), bore("row", 2, [2]), one(("one", 1), ("over", 0)),
            over(("over", 1), ("row", 0)),
        ]
        self.assertEqual(self.clash_of(survey_of(records), over(("one", 1), ("one", 0))).numbers, [1, 6])
        self.assertEqual(self.clash_of(survey_of(records), one(("over", 1), ("over", 0))).numbers, [2, 6])
        self.assertEqual(self.clash_of(survey_of(records), one(("row", 1), ("one", 0))).numbers, [1, 2, 3, 4, 5, 6])

    def test_long_rows_with_many_ways(self):
        counts = []
        for seed in range(1, 5):
            turning = Turning(seed)
            survey = survey_of([bore("a", 0, [20]), bore("b", 1, [9, 8]), bore("c", 2, [15])])
            layers = spots(survey.records())
            for number in range(60):
                saying = (turning.one_of(("one", "over")), turning.one_of(layers), turning.one_of(layers))
                if has_ring(shown(survey.records() + [saying])):
                    counts.append(len(self.refused(survey, saying).numbers))
                elif saying[0] == "over" or number % 3 == 0:
                    survey.put(saying)
        self.assertGreater(len(counts), 100)
        self.assertGreater(max(counts), 4)

    def test_bores_whose_rows_are_not_used_are_not_told(self):
        survey = survey_of([bore(name, place, [3]) for place, name in enumerate("abcd")])
        for ahead, behind in ("ab", "bc", "cd"):
            survey.put(over((ahead, 1), (behind, 1)))
        self.assertEqual(self.clash_of(survey, over(("d", 1), ("a", 1))).numbers, [5, 6, 7, 8])
        self.assertEqual(self.clash_of(survey, one(("d", 2), ("a", 1))).numbers, [4, 5, 6, 7, 8])

    def test_against_all_choices(self):
        found = {}
        for records in MANY:
            survey = Survey()
            for record in records:
                if len(record) == 3 and has_ring(shown(survey.records() + [record])):
                    clash = self.clash_of(survey, record)
                    self.assertIn(clash.numbers, all_least(survey.records() + [record]))
                    found[len(clash.numbers)] = found.get(len(clash.numbers), 0) + 1
                else:
                    survey.put(record)
        self.assertEqual([count for count in (1, 2, 3, 4) if found.get(count, 0) < 10], [])

    def test_each_saying_of_short_surveys(self):
        clashes = 0
        for records in MANY[::12]:
            survey = Survey()
            for record in records:
                if not has_ring(shown(survey.records() + [record])):
                    survey.put(record)
            clashes += self.count_clashes(survey)
        self.assertGreater(clashes, 100)

    def count_clashes(self, survey):
        count = 0
        for word, spot, other in itertools.product(("one", "over"), spots(survey.records()), spots(survey.records())):
            saying = (word, spot, other)
            if has_ring(shown(survey.records() + [saying])):
                self.clash_of(survey, saying)
                count += 1
        return count

    def test_what_was_refused_is_as_if_it_had_not_been(self):
        survey = survey_of([A, B])
        self.clash_of(survey, over(("a", 1), ("a", 0)))
        self.assertEqual(survey.put(over(("a", 2), ("b", 0))), 3)
        self.assertEqual(self.clash_of(survey, over(("b", 1), ("a", 2))).numbers, [2, 3, 4])

    def test_told_lists_are_the_askers_own(self):
        survey = survey_of([A])
        clash = self.clash_of(survey, over(("a", 1), ("a", 0)))
        self.assertEqual((type(clash.numbers), type(clash.ring)), (list, list))
        self.assertEqual({type(step) for step in clash.ring}, {tuple})
        kept = (list(clash.numbers), list(clash.ring))
        clash.numbers.append(9)
        clash.ring.clear()
        again = self.clash_of(survey, over(("a", 1), ("a", 0)))
        self.assertEqual((again.numbers, again.ring), kept)


class HowTwoLie(unittest.TestCase):
    def table(self, survey):
        layers = spots(survey.records())
        return {pair: survey.lies(*pair) for pair in itertools.product(layers, repeat=2)}

    def grow(self, records):
        # The surveys behind each record that isn't refused: the number put in, and what was known ahead.
        survey = Survey()
        for record in records:
            ahead = self.table(survey)
            try:
                number = survey.put(record)
            except Clash:
                continue
            yield survey, number, ahead

    def test_behind_each_record(self):
        for records in MANY:
            for survey, number, ahead in self.grow(records):
                known = leads(shown(survey.records()))
                for (spot, other), word in self.table(survey).items():
                    self.assertEqual(word, lie(known, spot, other))
                    self.assertTrue(shows(survey.records(), word, spot, other, survey.chain(spot, other)))
                self.assertTrue(stand_well(known, survey.order()))
                self.assertEqual(sorted(survey.order()), sorted(spots(survey.records())))

    def test_what_was_not_open_lies_as_it_lay(self):
        for records in MANY:
            for survey, number, ahead in self.grow(records):
                behind = self.table(survey)
                for pair, word in ahead.items():
                    self.assertIn(word, (behind[pair], "open"))

    def test_what_was_open_is_shown_through_the_new_record(self):
        anew = 0
        for records in MANY:
            for survey, number, ahead in self.grow(records):
                steps = [each[1] for each in shown_by(survey.records(), [number])]
                for pair, word in self.table(survey).items():
                    if ahead.get(pair) == "open" and word != "open":
                        self.assertTrue(any([step in steps for step in survey.chain(*pair)]))
                        anew += 1
        self.assertGreater(anew, 500)

    def test_a_bore_turns_nothing(self):
        survey = survey_of([A, one(("a", 0), ("a", 2))])
        ahead = self.table(survey)
        survey.put(B)
        self.assertEqual({pair: word for pair, word in self.table(survey).items() if pair in ahead}, ahead)
        self.assertEqual(survey.lies(("a", 0), ("b", 0)), "open")
        self.assertIsNone(survey.chain(("a", 0), ("b", 0)))
        self.assertEqual(survey.lies(("b", 0), ("b", 1)), "over")

    def test_two_that_are_the_same(self):
        survey = survey_of([A, B, one(("a", 0), ("b", 0))])
        for spot in spots([A, B]):
            self.assertEqual(survey.lies(spot, spot), "one")
            self.assertEqual(survey.chain(spot, spot), [])

    def test_spots_that_are_none_of_theirs(self):
        survey = survey_of([A, B])
        for strange in (("c", 0), ("", 0), ("a", 3), ("b", 2), ("a", -1), ("a", GREATEST), ("one", 0)):
            for pair in ((strange, ("a", 0)), (("a", 0), strange), (strange, strange)):
                for ask in (survey.lies, survey.chain, Survey().lies, Survey().chain):
                    with self.assertRaises(Unknown):
                        ask(*pair)
        with self.assertRaises(Unknown):
            Survey().lies(("a", 0), ("a", 0))


class ListsToldAndHandedIn(unittest.TestCase):
    def survey(self):
        return survey_of([A, B, one(("a", 1), ("b", 0))])

    def asks(self, survey):
        return (
            survey.records,
            survey.order,
            lambda: survey.chain(("a", 0), ("b", 1)),
            lambda: survey.chain(("b", 0), ("a", 1)),
        )

    def test_told_lists_are_the_askers_own(self):
        survey = self.survey()
        for ask in self.asks(survey):
            self.assertIs(type(ask()), list)
            self.assertTrue(is_the_askers_own(ask))
        self.assertEqual(survey.put(bore("c", 9, [1])), 4)

    def test_nothing_told_too(self):
        survey = Survey()
        survey.records().append(A)
        survey.order().append(("a", 0))
        self.assertEqual((survey.records(), survey.order()), ([], []))
        self.assertEqual(survey.put(A), 1)
        survey.chain(("a", 0), ("a", 0)).append("more")
        self.assertEqual(survey.chain(("a", 0), ("a", 0)), [])

    def test_what_was_told_stays_as_it_was(self):
        survey = self.survey()
        told = [ask() for ask in self.asks(survey)]
        kept = [list(each) for each in told]
        survey.put(bore("c", 9, [2]))
        survey.put(over(("c", 1), ("a", 0)))
        self.assertEqual(told, kept)

    def test_arguments_by_their_names(self):
        survey = Survey()
        self.assertEqual(survey.put(record=A), 1)
        self.assertEqual(survey.lies(spot=("a", 0), other=("a", 1)), "over")
        self.assertEqual(survey.chain(spot=("a", 0), other=("a", 1)), [("row", "a", 0)])

    def test_two_surveys_know_nothing_of_one_another(self):
        first, second = Survey(), Survey()
        first.put(A)
        self.assertEqual((second.records(), second.order()), ([], []))
        self.assertEqual(second.put(("a", 5, 0, B[3])), 1)
        first.put(over(("a", 2), ("a", 0)))
        self.assertEqual((len(first.records()), len(second.records())), (2, 1))
        self.assertEqual(second.put(B), 2)
        with self.assertRaises(Unknown):
            first.lies(("b", 0), ("b", 1))


class FullSurvey(unittest.TestCase):
    def test_in_good_time(self):
        turning = Turning(5)
        survey = survey_of([bore("abcdefghijkl"[number], 30 - number, [2, 2, 1]) for number in range(12)])
        layers = survey.order()
        begun = time.process_time()
        clashes = []
        while len(survey.records()) < 100:
            saying = (turning.one_of(("one", "over")), turning.one_of(layers), turning.one_of(layers))
            try:
                survey.put(saying)
            except Clash as clash:
                clashes.append((survey.records() + [saying], clash))
        words = [survey.lies(spot, other) for spot, other in itertools.product(layers, repeat=2)]
        chains = [survey.chain(spot, other) for spot, other in itertools.product(layers, repeat=2)]
        row = survey.order()
        self.assertLess(time.process_time() - begun, 60)
        self.assertGreater(len(clashes), 20)
        for records, clash in clashes[::5]:
            Clashes().assert_clash(records, clash)
        self.assertTrue(lie_as_told(survey.records(), layers, words, chains))
        self.assertTrue(stand_well(leads(shown(survey.records())), row))
        self.assertEqual(sorted(row), sorted(layers))


if __name__ == "__main__":
    unittest.main()
