"""Reads a field of its text."""

from bores.errors import NoText
from bores.fields import fitted
from bores.words import rows_of, values_of, words_of

# For each first word of a row, what the words behind it are.
FORMS = {
    "bore": ("name", "number", "number"),
    "layer": ("name", "number"),
    "fault": (),
    "like": ("name", "name", "number"),
}


def read(text):
    if not isinstance(text, str):
        raise NoText("a field is read of a text alone")
    # The form of the whole text is asked first: NoText goes ahead of Unfit, in whatever row each stands.
    things = [thing_of(words_of(row)) for row in rows_of(text)]
    end = end_of_bores(things)
    return fitted((bores_of(things[:end]), likes_of(things[end:])))


def thing_of(words):
    first = words[0]
    if first not in FORMS:
        raise NoText(f"no row of a field: {words!r}")
    return (first, values_of(FORMS[first], words[1:]))


def end_of_bores(things):
    firsts = [first for first, values in things]
    return firsts.index("like") if "like" in firsts else len(firsts)


def bores_of(things):
    heads = [values for first, values in things if first == "bore"]
    parts = parts_between("bore", things)
    if parts[0] != []:
        raise NoText("a layer or a fault stands ahead of each bore")
    return tuple([head + (blocks_of(part),) for head, part in zip(heads, parts[1:])])


def blocks_of(things):
    return tuple([block_of(part) for part in parts_between("fault", things)])


def block_of(things):
    # So too where a fault has no layer on one side: one of its parts has none.
    if things == []:
        raise NoText("a block has no layers")
    return tuple([values for first, values in things])


def likes_of(things):
    if any([first != "like" for first, values in things]):
        raise NoText("a bore, a layer or a fault stands behind a like")
    return tuple([values for first, values in things])


def parts_between(word, things):
    parts = [[]]
    for thing in things:
        if thing[0] == word:
            parts.append([])
        else:
            parts[-1].append(thing)
    return parts
