import unittest

from bores.errors import NoText
from bores.words import is_name, is_number, rows_of, words_of

# Every sign that a text that is handed in may have.
SIGNS = [chr(code) for code in range(ord(" "), ord("~") + 1)] + ["\n", "\t"]
LETTERS = "abcdefghijklmnopqrstuvwxyz"
FIGURES = "0123456789"


class Names(unittest.TestCase):
    def test_how_many_signs(self):
        for count in range(12):
            self.assertIs(is_name("q" * count), 1 <= count <= 8, count)

    def test_all_letters(self):
        for start in range(0, 26, 8):
            self.assertIs(is_name(LETTERS[start:start + 8]), True)

    def test_each_sign_at_each_place(self):
        for sign in SIGNS:
            for name in (sign, sign + "ab", "a" + sign + "b", "ab" + sign, "abcdefg" + sign):
                self.assertIs(is_name(name), sign in LETTERS, repr(name))


class Numbers(unittest.TestCase):
    def test_how_many_figures(self):
        for count in (0, 1, 2, 59, 60, 61, 62, 400):
            self.assertIs(is_number("9" * count), 1 <= count <= 60, count)
            if count:
                self.assertIs(is_number("1" + "0" * (count - 1)), count <= 60, count)

    def test_nought_by_itself(self):
        self.assertIs(is_number("0"), True)

    def test_nought_ahead_of_others(self):
        for word in ("00", "01", "010", "0" * 60, "0" * 61, "0" + "9" * 59, "0a", "0 ", "0\n"):
            self.assertIs(is_number(word), False, repr(word))

    def test_nought_within_and_at_the_end(self):
        for word in ("10", "100", "101", "9000000000"):
            self.assertIs(is_number(word), True, word)

    def test_each_sign_at_each_place(self):
        for sign in SIGNS:
            for word in ("1" + sign, "1" + sign + "2", "12" + sign):
                self.assertIs(is_number(word), sign in FIGURES, repr(word))
            for word in (sign + "1", sign + "12"):
                self.assertIs(is_number(word), sign in FIGURES[1:], repr(word))
            self.assertIs(is_number(sign), sign in FIGURES, repr(sign))


class Words(unittest.TestCase):
    def test_parts_between_blanks(self):
        self.assertEqual(words_of("a"), ["a"])
        self.assertEqual(words_of("bore abc 10 0"), ["bore", "abc", "10", "0"])
        self.assertEqual(words_of("b a b"), ["b", "a", "b"])

    def test_only_blanks_part(self):
        self.assertEqual(words_of("a\tb c"), ["a\tb", "c"])
        self.assertEqual(words_of("\t"), ["\t"])
        self.assertEqual(words_of("\ta \t b\t"), ["\ta", "\t", "b\t"])
        self.assertEqual(words_of("a\nb c\n"), ["a\nb", "c\n"])

    def test_each_sign_is_a_word_but_the_blank(self):
        for sign in SIGNS:
            if sign != " ":
                self.assertEqual(words_of(sign + " " + sign), [sign, sign])

    def test_a_word_without_signs_is_refused(self):
        for row in ("", " ", "  ", " a", "a ", "a  b", "a b  c", "a   b", " a b", "a b ", "\t ", " \n"):
            with self.assertRaises(NoText, msg=repr(row)):
                words_of(row)

    def test_long_row(self):
        self.assertEqual(words_of(" ".join(["ab"] * 3000)), ["ab"] * 3000)

    def test_told_list_is_the_askers_own(self):
        first = words_of("a b")
        second = words_of("a b")
        first.append("c")
        first[0] = "z"
        self.assertEqual(second, ["a", "b"])
        self.assertEqual(words_of("a b"), ["a", "b"])


class Rows(unittest.TestCase):
    def test_text_without_signs_has_none(self):
        self.assertEqual(rows_of(""), [])

    def test_parts_between_line_feeds(self):
        self.assertEqual(rows_of("a"), ["a"])
        self.assertEqual(rows_of("a b\nc"), ["a b", "c"])
        self.assertEqual(rows_of("c\na\nc"), ["c", "a", "c"])

    def test_line_feed_at_an_end(self):
        self.assertEqual(rows_of("a\n"), ["a", ""])
        self.assertEqual(rows_of("\na"), ["", "a"])
        self.assertEqual(rows_of("\n"), ["", ""])

    def test_two_line_feeds_side_by_side(self):
        self.assertEqual(rows_of("a\n\nb"), ["a", "", "b"])
        self.assertEqual(rows_of("\n\n"), ["", "", ""])

    def test_only_line_feeds_part(self):
        self.assertEqual(rows_of(" a\t\n b "), [" a\t", " b "])
        for sign in SIGNS:
            if sign != "\n":
                self.assertEqual(rows_of(sign), [sign])

    def test_long_text(self):
        self.assertEqual(rows_of("\n".join(["ab"] * 3000)), ["ab"] * 3000)

    def test_told_list_is_the_askers_own(self):
        for text, rows in (("a\nb", ["a", "b"]), ("", [])):
            first = rows_of(text)
            second = rows_of(text)
            first.append("c")
            self.assertEqual(second, rows)
            self.assertEqual(rows_of(text), rows)


if __name__ == "__main__":
    unittest.main()
