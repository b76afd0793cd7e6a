import itertools
import re
import unittest

from bores.errors import BoreError, NoText, Unfit
from bores.fields import fits
from bores.reader import read
from bores.writer import show

ROWS = ("bore a 3 4", "layer s 5", "layer t 6", "fault", "layer s 7", "bore b 0 0", "layer u 1", "like s t 2")
TEXT = "\n".join(ROWS)
FIELD = (
    (
        ("a", 3, 4, ((("s", 5), ("t", 6)), (("s", 7),))),
        ("b", 0, 0, ((("u", 1),),)),
    ),
    (("s", "t", 2),),
)
NO_NAMES = (
    "A", "aB", "a1", "1", "a.b", "a.1", "a:1", "-", "abcdefghi", "a\t", "\ta", "\t", "_", "a,b", "a\r", "\xe4",
    "\u0430",
)
NO_NUMBERS = (
    "00", "01", "007", "-1", "+1", "-0", "1.0", "1_0", "1e3", "0x1", "a", "1a", "a.1", "\t1", "1\t", "-", ".", "1,0",
    "\u0661", "\xb2", "\uff11", "9" * 61, "1" + "0" * 60, "0" * 60, "9" * 300,
)

# The form once more, as one pattern over the whole text.
NAME = "[a-z]{1,8}"
NUMBER = "(?:0|[1-9][0-9]{0,59})"
LAYERS = f"(?:layer {NAME} {NUMBER}\n)+"
FORM = re.compile(f"(?:bore {NAME} {NUMBER} {NUMBER}\n{LAYERS}(?:fault\n{LAYERS})*)*(?:like {NAME} {NAME} {NUMBER}\n)*")


def has_form(text):
    return text == "" or FORM.fullmatch(text + "\n") is not None


def all_unlike(things):
    return len(set(things)) == len(things)


def numbers_fit(text):
    """Whether a text of the form is that of a field that fits, seen by its rows alone."""
    rows = [row.split(" ") for row in text.split("\n")]
    bores = [row for row in rows if row[0] == "bore"]
    likes = [row for row in rows if row[0] == "like"]
    return (
        all_unlike([row[1] for row in bores])
        and all_unlike([row[2] for row in bores])
        and all(row[2] != "0" for row in rows if row[0] == "layer")
        and all(row[3] in "1 2 3 4 5 6 7 8 9".split() for row in likes)
        and all_unlike([tuple(sorted(row[1:3])) for row in likes])
    )


class ReaderCase(unittest.TestCase):
    def assert_refused(self, refusal, thing):
        with self.assertRaises(BoreError, msg=repr(thing)) as caught:
            read(thing)
        self.assertIs(type(caught.exception), refusal, repr(thing))

    def assert_no_text(self, thing):
        self.assert_refused(NoText, thing)

    def assert_as_the_form_tells(self, text):
        if not has_form(text):
            self.assert_refused(NoText, text)
        elif not numbers_fit(text):
            self.assert_refused(Unfit, text)
        else:
            field = read(text)
            self.assertIs(fits(field), True, text)
            self.assertEqual(show(field), text)


def with_row(number, row):
    return "\n".join(ROWS[:number] + (row,) + ROWS[number + 1:])


class Read(ReaderCase):
    def test_ordinary(self):
        self.assertEqual(read(TEXT), FIELD)

    def test_without_signs(self):
        self.assertEqual(read(""), ((), ()))

    def test_without_likes(self):
        self.assertEqual(read("\n".join(ROWS[:-1])), (FIELD[0], ()))

    def test_without_bores(self):
        self.assertEqual(read("like s t 2"), ((), (("s", "t", 2),)))
        self.assertEqual(read("like b a 9\nlike a a 1"), ((), (("b", "a", 9), ("a", "a", 1))))

    def test_bores_in_the_order_of_the_text(self):
        self.assertEqual(read("\n".join(ROWS[5:7] + ROWS[:5])), (FIELD[0][::-1], ()))

    def test_greatest_names_and_numbers(self):
        great = 10 ** 60 - 1
        text = f"bore abcdefgh {great} {great}\nlayer stuvwxyz {great}\nlike abcdefgh stuvwxyz 9"
        bore = ("abcdefgh", great, great, ((("stuvwxyz", great),),))
        self.assertEqual(read(text), ((bore,), (("abcdefgh", "stuvwxyz", 9),)))

    def test_kinds(self):
        def kinds(thing):
            return [kinds(part) for part in thing] if type(thing) is tuple else type(thing)

        layer = [str, int]
        bores = [[str, int, int, [[layer, layer], [layer]]], [str, int, int, [[layer]]]]
        self.assertEqual(kinds(read(TEXT)), [bores, [[str, str, int]]])
        self.assertEqual(kinds(read("")), [[], []])

    def test_argument_by_its_name(self):
        self.assertEqual(read(text=TEXT), FIELD)

    def test_what_is_read_twice_is_the_same(self):
        self.assert_no_text(TEXT + "\n")
        self.assertEqual(read(TEXT), read(TEXT))


class NoTexts(ReaderCase):
    def test_what_is_no_text(self):
        things = (
            None, True, False, 0, 1, -1, 10 ** 70, 1.5, b"", TEXT.encode(), bytearray(b"fault"), [], list(ROWS), [TEXT],
            (), ROWS, FIELD, ((), ()), {}, {TEXT: TEXT}, set(), frozenset(ROWS), object(), read, str, iter(TEXT),
        )
        for thing in things:
            self.assert_no_text(thing)

    def test_what_is_no_text_stays_as_it_was(self):
        rows = list(ROWS)
        self.assert_no_text(rows)
        self.assertEqual(rows, list(ROWS))

    def test_other_first_words(self):
        for number, row in enumerate(ROWS):
            first, blank, rest = row.partition(" ")
            others = (first.upper(), first.capitalize(), first + "s", first[:-1], "x", "0", "record", "\t" + first)
            for other in others:
                self.assert_no_text(with_row(number, other + blank + rest))
            self.assert_no_text(with_row(number, rest))
        self.assert_no_text("record a 0 0")

    def test_first_words_in_each_others_place(self):
        for number, row in enumerate(ROWS):
            for first in ("bore", "layer", "fault", "like"):
                words = row.split(" ")
                if first != words[0]:
                    self.assert_no_text(with_row(number, " ".join([first] + words[1:])))

    def test_a_word_too_few(self):
        for number, row in enumerate(ROWS):
            words = row.split(" ")
            for place in range(len(words)):
                self.assert_no_text(with_row(number, " ".join(words[:place] + words[place + 1:])))

    def test_a_word_too_many(self):
        for number, row in enumerate(ROWS):
            words = row.split(" ")
            for place in range(len(words) + 1):
                for word in ("a", "1", words[-1], "fault"):
                    self.assert_no_text(with_row(number, " ".join(words[:place] + [word] + words[place:])))

    def test_blanks_and_tabs(self):
        for number, row in enumerate(ROWS):
            for wrong in (" " + row, row + " ", "  " + row, "\t" + row, row + "\t", row + " \t", "\t " + row):
                self.assert_no_text(with_row(number, wrong))
            if " " in row:
                for wrong in (row.replace(" ", "  "), row.replace(" ", "  ", 1), row.replace(" ", "\t")):
                    self.assert_no_text(with_row(number, wrong))

    def test_rows_without_signs(self):
        for number in range(len(ROWS) + 1):
            for row in ("", " ", "\t"):
                self.assert_no_text("\n".join(ROWS[:number] + (row,) + ROWS[number:]))
        for text in ("\n", "\n\n", " ", "\t", "  ", " \n", "\n "):
            self.assert_no_text(text)

    def test_rows_are_parted_by_line_feeds_alone(self):
        for sign in ("\r\n", "\r", "\n\r", "\x0b", "\x0c", "\x1c", "\x85", "\u2028", "\x00", ";", " "):
            self.assert_no_text(TEXT.replace("\n", sign))
            self.assert_no_text(TEXT.replace("\n", sign, 1))
            self.assert_no_text(TEXT + sign)
            self.assert_no_text(sign + TEXT)

    def test_words_are_parted_by_blanks_alone(self):
        for sign in ("\t", "\xa0", "\u3000", "\x1f", ",", ""):
            self.assert_no_text(TEXT.replace(" ", sign))
            self.assert_no_text(TEXT.replace(" ", sign, 1))

    def test_no_names(self):
        for word in NO_NAMES:
            self.assert_no_text(f"bore {word} 0 0\nlayer s 1")
            self.assert_no_text(f"bore a 0 0\nlayer {word} 1")
            self.assert_no_text(f"bore a 0 0\nlayer s 1\nfault\nlayer {word} 1")
            self.assert_no_text(f"like {word} a 1")
            self.assert_no_text(f"like a {word} 1")

    def test_no_numbers(self):
        for word in NO_NUMBERS:
            self.assert_no_text(f"bore a {word} 0\nlayer s 1")
            self.assert_no_text(f"bore a 0 {word}\nlayer s 1")
            self.assert_no_text(f"bore a 0 0\nlayer s {word}")
            self.assert_no_text(f"bore a 0 0\nlayer s 1\nfault\nlayer s {word}")
            self.assert_no_text(f"like a b {word}")


class OrderOfRows(ReaderCase):
    def test_a_layer_or_a_fault_ahead_of_each_bore(self):
        for ahead in ("layer s 1", "fault", "layer s 1\nfault", "layer s 1\nfault\nlayer s 1"):
            self.assert_no_text(ahead)
            self.assert_no_text(ahead + "\n" + TEXT)
            self.assert_no_text(ahead + "\nlike s t 2")

    def test_a_fault_without_a_layer_on_one_side(self):
        for rows in (
            ("bore a 0 0", "fault", "layer s 1"),
            ("bore a 0 0", "layer s 1", "fault"),
            ("bore a 0 0", "layer s 1", "fault", "fault", "layer s 1"),
            ("bore a 0 0", "fault"),
        ):
            for behind in ((), ("bore b 1 1", "layer s 1"), ("like s t 2",)):
                self.assert_no_text("\n".join(rows + behind))
            self.assert_no_text("\n".join(("bore b 1 1", "layer s 1") + rows))

    def test_a_bore_without_layers(self):
        for text in (
            "bore a 0 0",
            "bore a 0 0\nbore b 1 1\nlayer s 1",
            "bore b 1 1\nlayer s 1\nbore a 0 0",
            "bore a 0 0\nlike s t 2",
        ):
            self.assert_no_text(text)

    def test_what_stands_behind_a_like(self):
        for behind in ("layer s 1", "fault", "bore c 9 9", "bore c 9 9\nlayer s 1", "fault\nlayer s 1"):
            self.assert_no_text(TEXT + "\n" + behind)
            self.assert_no_text(TEXT + "\n" + behind + "\nlike u t 2")
            self.assert_no_text("like s t 2\n" + behind)

    def test_each_row_of_kinds(self):
        pattern = re.compile("(bl+(fl+)*)*k*")
        for count in range(7):
            for kinds in itertools.product("blfk", repeat=count):
                text = "\n".join([self.row(kind, number) for number, kind in enumerate(kinds)])
                if pattern.fullmatch("".join(kinds)):
                    self.assertEqual(show(read(text)), text)
                else:
                    self.assert_no_text(text)

    def row(self, kind, number):
        # Each row has a letter of its own, so that all that is of the form fits.
        letter = "stuvwxyz"[number]
        return {
            "b": f"bore {letter} {number} 0",
            "l": f"layer {letter} 1",
            "f": "fault",
            "k": f"like a {letter} 1",
        }[kind]


UNFIT = (
    "bore a 0 0\nlayer s 0",
    "bore a 0 0\nlayer s 1\nlayer s 0",
    "bore a 0 0\nlayer s 0\nfault\nlayer s 1",
    "bore a 0 0\nlayer s 1\nfault\nlayer s 0",
    "like s t 0",
    "like s t 10",
    "like s t 11",
    "like s s 90",
    "like s t " + "9" * 60,
    "bore a 0 0\nlayer s 1\nbore a 1 0\nlayer s 1",
    "bore a 0 0\nlayer s 1\nbore b 1 0\nlayer s 1\nbore a 2 0\nlayer s 1",
    "bore a 0 0\nlayer s 1\nbore b 0 1\nlayer t 2",
    "bore a 7 0\nlayer s 1\nbore b 1 0\nlayer s 1\nbore c 7 0\nlayer s 1",
    "like s t 1\nlike s t 1",
    "like s t 1\nlike s t 2",
    "like s t 1\nlike t s 1",
    "like s t 1\nlike u v 2\nlike t s 3",
    "like s s 1\nlike s s 2",
)


class Unfits(ReaderCase):
    def test_refused_with_unfit(self):
        for text in UNFIT:
            self.assert_refused(Unfit, text)
        for text in UNFIT[:4]:
            self.assert_refused(Unfit, text + "\nlike s t 2")
        for text in UNFIT[4:9]:
            self.assert_refused(Unfit, TEXT.replace("like s t 2", text))

    def test_near_to_unfit_but_fitting(self):
        for text in (
            "bore a 0 0\nlayer s 1",
            "like s t 1",
            "like s t 9",
            "like s s 1\nlike s t 1\nlike t t 1",
            "bore a 0 5\nlayer s 1\nbore b 5 5\nlayer s 1",
        ):
            self.assertEqual(show(read(text)), text)

    def test_no_text_goes_ahead_of_unfit(self):
        for text in UNFIT:
            for wrong in (text + "\n", "\n" + text, text + "\nfault", "fault\n" + text, text + "\nlike s t", text + " "):
                self.assert_no_text(wrong)


class TextsOneStepAway(ReaderCase):
    def test_each_sign_left_out(self):
        for place in range(len(TEXT)):
            self.assert_as_the_form_tells(TEXT[:place] + TEXT[place + 1:])

    def test_each_sign_put_in_or_in_the_place_of_another(self):
        for place in range(len(TEXT) + 1):
            for sign in " \n\t0159abst-+.A":
                self.assert_as_the_form_tells(TEXT[:place] + sign + TEXT[place:])
                self.assert_as_the_form_tells(TEXT[:place] + sign + TEXT[place + 1:])

    def test_each_row_left_out_or_told_again_elsewhere(self):
        for number, row in enumerate(ROWS):
            left = ROWS[:number] + ROWS[number + 1:]
            self.assert_as_the_form_tells("\n".join(left))
            for place in range(len(ROWS) + 1):
                self.assert_as_the_form_tells("\n".join(ROWS[:place] + (row,) + ROWS[place:]))
                self.assert_as_the_form_tells("\n".join(left[:place] + (row,) + left[place:]))

    def test_each_beginning_and_each_end(self):
        for place in range(len(TEXT) + 1):
            self.assert_as_the_form_tells(TEXT[:place])
            self.assert_as_the_form_tells(TEXT[place:])


if __name__ == "__main__":
    unittest.main()
