"""Whether two layings are alike for a kind, and a worth that tells them apart."""

from tonguegate.layings import in_order
from tonguegate.pictures import picture


def alike(one, other, kind):
    """Whether each worth of the kind has the same picture by both layings."""
    return apart(one, other, kind) is None


def apart(one, other, kind):
    """A worth of the kind whose pictures by the two layings are unlike; None where there is none."""
    head = kind[0]
    if head == "num":
        return 1 if one[0] != other[0] and kind[1] > 1 else None
    if head == "text":
        return "a" if one[1] != other[1] else None
    if head == "row":
        return apart_row(one, other, kind[1])
    if head == "rec":
        return apart_record(one, other, kind[1])
    return apart_choice(one, other, kind[1])


def apart_row(one, other, kind):
    """A row of items of the kind that tells the layings apart, or None."""
    if one[2] != other[2]:
        return ()
    item = apart(one, other, kind)
    return None if item is None else (item,)


def apart_record(one, other, fields):
    """A rec's worth that tells the layings apart, or None."""
    if in_order(one, fields) != in_order(other, fields):
        return apart_by_order(one, other, fields)
    for place, (name, inner) in enumerate(fields):
        part = apart(one, other, inner)
        if part is not None:
            return with_field(fields, place, part)
    return None


def apart_by_order(one, other, fields):
    """A worth that tells the layings apart for a rec whose fields they put in two orders."""
    # Of two fields that change their order, one has none of its entries' places in common between the two pictures.
    # So where only this field changes, one picture changes at a place at which the other one does not.
    tried = [tuple([first_worth(inner) for name, inner in fields])]
    tried += [with_field(fields, place, second_worth(inner)) for place, (name, inner) in enumerate(fields)]
    for worth in tried:
        if picture(one, ("rec", fields), worth) != picture(other, ("rec", fields), worth):
            return worth
    return None


def apart_choice(one, other, fields):
    """A pick's worth that tells the layings apart, or None."""
    for (name, inner), (another, kind) in zip(in_order(one, fields), in_order(other, fields)):
        if name != another:
            return (name, first_worth(inner))
    for name, inner in fields:
        part = apart(one, other, inner)
        if part is not None:
            return (name, part)
    return None


def with_field(fields, place, part):
    """The rec's worth that has this part at this place, and first worths at all others."""
    return tuple([part if at == place else first_worth(inner) for at, (name, inner) in enumerate(fields)])


def first_worth(kind):
    """A worth of the kind, the barest one."""
    head = kind[0]
    if head == "num":
        return 0
    if head == "text":
        return ""
    if head == "row":
        return ()
    if head == "rec":
        return tuple([first_worth(inner) for name, inner in kind[1]])
    name, inner = kind[1][0]
    return (name, first_worth(inner))


def second_worth(kind):
    """Another worth of the kind than the first one."""
    head = kind[0]
    if head == "num":
        return 1
    if head == "text":
        return "a"
    if head == "row":
        return (first_worth(kind[1]),)
    name, inner = kind[1][0]
    if head == "rec":
        return with_field(kind[1], 0, second_worth(inner))
    return (name, second_worth(inner))
