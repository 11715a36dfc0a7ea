"""Two readers of one wood held beside one another."""

from boughkept.answers import answered
from boughkept.polys import box_poly
from boughkept.woods import maker_table


def put_beside(wood, one, other):
    """The reader that has the first one's boxes, then the second's."""
    counts, rules = one
    its_counts, its_rules = other
    together = []
    for sums, its_sums, (kind, parts) in zip(rules, its_rules, list(maker_table(wood).values())):
        ahead = [counts[part] for part in parts]
        together.append(sums + tuple([shifted(terms, ahead) for terms in its_sums]))
    return (tuple([count + its for count, its in zip(counts, its_counts)]), tuple(together))


def shifted(terms, ahead):
    """A sum's terms where so many boxes have come ahead of each part's."""
    told = []
    for number, boxes in terms:
        told.append((number, tuple([None if box is None else box + many for box, many in zip(boxes, ahead)])))
    return tuple(told)


def told_alike(wood, one, other, kind, box=0, its=0):
    """("alike",) where a box of each is the same at every tree of the kind, else ("tree", a lowest other one)."""
    beside = put_beside(wood, one, other)
    boxes = beside[0][kind]
    unlike = box_poly(boxes, box).plus(box_poly(boxes, one[0][kind] + its).scaled((-1, 1)))
    answer = answered(wood, beside, kind, unlike)
    return answer if answer[0] == "tree" else ("alike",)
