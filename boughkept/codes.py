"""Codes: for each maker the deeds by which a machine reckons its sums."""


def code_of(wood, reader):
    """For each maker, in order, its deeds."""
    counts, rules = reader
    return tuple([deeds_of(sums) for sums in rules])


def deeds_of(sums):
    """The deeds behind which the bench has one number for each sum."""
    deeds = []
    for terms in sums:
        deeds.extend(sum_deeds(terms))
    return tuple(deeds)


def sum_deeds(terms):
    if len(terms) == 0:
        return [("put", (0, 1))]
    deeds = []
    for at, (number, boxes) in enumerate(terms):
        deeds.extend(term_deeds(number, boxes))
        if at > 0:
            deeds.append(("plus",))
    return deeds


def term_deeds(number, boxes):
    deeds = [("put", number)]
    for part, box in enumerate(boxes):
        if box is not None:
            deeds.extend([("take", part, box), ("times",)])
    return deeds
