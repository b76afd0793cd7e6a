"""Names, numbers, the words of a row and the rows of a text, and words taken as values."""

from bores.errors import NoText

LETTERS = "abcdefghijklmnopqrstuvwxyz"
FIGURES = "0123456789"
MOST_LETTERS = 8
MOST_FIGURES = 60


def is_name(word):
    return 1 <= len(word) <= MOST_LETTERS and is_made_of(LETTERS, word)


def is_number(word):
    if word == "0":
        return True
    return 1 <= len(word) <= MOST_FIGURES and not word.startswith("0") and is_made_of(FIGURES, word)


def is_made_of(signs, word):
    return all([sign in signs for sign in word])


def words_of(row):
    words = row.split(" ")
    if "" in words:
        raise NoText("a row has a word without signs")
    return words


def rows_of(text):
    # Split by itself would tell one row without signs here.
    if text == "":
        return []
    return text.split("\n")


def values_of(kinds, words):
    if len(words) != len(kinds):
        raise NoText(f"too many words or too few: {words!r}")
    return tuple([value_of(kind, word) for kind, word in zip(kinds, words)])


def value_of(kind, word):
    if kind == "name" and is_name(word):
        return word
    if kind == "number" and is_number(word):
        return int(word)
    if kind == "spot":
        return values_of(("name", "number"), word.split("."))
    raise NoText(f"no {kind}: {word!r}")
