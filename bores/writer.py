"""Shows a field as its text."""


def show(field):
    rows = []
    for bore in field[0]:
        rows.extend(rows_of_bore(bore))
    rows.extend([f"like {mark} {other} {points}" for mark, other, points in field[1]])
    return "\n".join(rows)


def rows_of_bore(bore):
    name = bore[0]
    place = bore[1]
    top = bore[2]
    rows = [f"bore {name} {place} {top}"]
    for number, block in enumerate(bore[3]):
        if number > 0:
            rows.append("fault")
        rows.extend([f"layer {mark} {thick}" for mark, thick in block])
    return rows
