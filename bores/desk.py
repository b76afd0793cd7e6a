"""A desk: it is told rows, keeps a survey and likes, and answers texts."""

from bores.depths import by_place, layers_of
from bores.errors import NoText, Unknown
from bores.fields import like_fits, two_marks
from bores.reader import blocks_of, thing_of
from bores.sheets import bored_at
from bores.steps import bores_among
from bores.survey import Survey
from bores.threads import doubled, liken_layers, threads
from bores.words import values_of, words_of

# For each first word of a row but a bore's, what the words behind it are.
FORMS = {
    "one": ("spot", "spot"),
    "over": ("spot", "spot"),
    "like": ("name", "name", "number"),
    "lies": ("spot", "spot"),
    "order": (),
    "threads": (),
    "doubled": ("name",),
    "at": ("number",),
}


class Desk:
    def __init__(self):
        self.survey = Survey()
        self.likes = {}

    def say(self, row):
        # The form of the row is asked first, so that one that is refused for it comes to no deed.
        deed = deed_of(row)
        first = deed[0]
        values = deed[1]
        if first == "bore":
            return str(self.survey.put(values))
        if first in ("one", "over"):
            return str(self.survey.put((first,) + values))
        if first == "like":
            self.likes[two_marks(values[0], values[1])] = values
            return "ok"
        return answer(self.survey, tuple(self.likes.values()), first, values)


def deed_of(row):
    if not isinstance(row, str):
        raise NoText("a desk is told texts alone")
    words = words_of(row)
    first = words[0]
    if first == "bore":
        return (first, bore_of(words))
    if first not in FORMS:
        raise NoText(f"no row of a desk: {row!r}")
    values = values_of(FORMS[first], words[1:])
    if first == "like" and not like_fits(values[0], values[1], values[2]):
        raise NoText(f"no like: {row!r}")
    return (first, values)


def bore_of(words):
    head = thing_of(words[:4])
    things = [thing_of(["fault"] if word == "/" else ["layer"] + word.split(":")) for word in words[4:]]
    return head[1] + (blocks_of(things),)


def answer(survey, likes, first, values):
    if first == "lies":
        return survey.lies(values[0], values[1])
    if first == "order":
        return told(words_of_spots(survey.order()))
    field = (tuple(bores_among(survey.records())), likes)
    if first == "threads":
        return told_parts([words_of_spots(thread) for thread in threads(field)])
    if first == "doubled":
        bore = bore_named(field[0], values[0])
        return told_parts([words_of_pairs(pairs) for pairs in doubled(bore, likes)])
    return told(words_bored(field, values[0]))


def told(words):
    return "-" if words == [] else " ".join(words)


def told_parts(parts):
    return "-" if parts == [] else "; ".join([told(words) for words in parts])


def words_of_spots(spots):
    return [f"{name}.{number}" for name, number in spots]


def words_of_pairs(pairs):
    return [f"{one}-{other}" for one, other in pairs]


def bore_named(bores, name):
    for bore in bores:
        if bore[0] == name:
            return bore
    raise Unknown(f"no bore of the name {name}")


def words_bored(field, place):
    around = neighbours(by_place(field), place)
    left = around[0]
    right = around[1]
    pairs = liken_layers(field[1], layers_of(left), layers_of(right))
    return [word_of_sheet(sheet, thick) for sheet, thick in bored_at(left, right, pairs, place)]


def neighbours(bores, place):
    found = [(left, right) for left, right in zip(bores, bores[1:]) if left[1] <= place <= right[1]]
    if found == []:
        raise Unknown(f"the place {place} lies between no two bores")
    # At the place of a bore between two others both its sides are found: the one behind it is asked for.
    return found[-1]


def word_of_sheet(sheet, thick):
    left = number_or_dash(sheet[0])
    right = number_or_dash(sheet[1])
    top = thick[0]
    bottom = thick[1]
    return f"{left}:{right}={top}/{bottom}"


def number_or_dash(number):
    return "-" if number is None else str(number)
