"""The steps that records of bores and sayings show, and chains of steps."""

from bores.depths import block_ends, spots_of_bore


def is_bore(record):
    # Not asked by the first thing: a bore may be named like a saying.
    return len(record) == 4


def bores_among(records):
    return [record for record in records if is_bore(record)]


def spots_of(records):
    spots = []
    for bore in bores_among(records):
        spots.extend(spots_of_bore(bore))
    return spots


def steps_of(records):
    return steps_of_some(records, all_numbers(records))


def all_numbers(records):
    return list(range(1, len(records) + 1))


def steps_of_some(records, numbers):
    steps = []
    for number in numbers:
        steps.extend(steps_of_record(records[number - 1], number))
    return steps


def steps_of_record(record, number):
    if is_bore(record):
        return row_steps(record)
    if record[0] == "over":
        return [("over", number)]
    return [("one", number, 0), ("one", number, 1)]


def row_steps(bore):
    ends = block_ends(bore)
    return [("row", name, number) for name, number in spots_of_bore(bore) if number not in ends]


def begin_of(records, step):
    return begin_and_end(records, step)[0]


def end_of(records, step):
    return begin_and_end(records, step)[1]


def begin_and_end(records, step):
    if step[0] == "row":
        return ((step[1], step[2]), (step[1], step[2] + 1))
    saying = records[step[1] - 1]
    if step[0] == "one" and step[2] == 1:
        return (saying[2], saying[1])
    return (saying[1], saying[2])


def is_chain(records, steps):
    joints = [end_of(records, ahead) == begin_of(records, behind) for ahead, behind in zip(steps, steps[1:])]
    return len(steps) > 0 and all(joints)


def is_strict(steps):
    return any([step[0] != "one" for step in steps])


def numbers_of(records, steps):
    bores = {}
    for number, record in enumerate(records, start=1):
        if is_bore(record):
            bores[record[0]] = number
    return sorted(set([bores[step[1]] if step[0] == "row" else step[1] for step in steps]))
