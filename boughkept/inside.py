"""Sums put one into another: what a maker's parts have in their boxes are Polys of other boxes."""

from boughkept.polys import Poly
from boughkept.raised import boxes_to, raised_sum


def widened(poly, part, part_counts):
    """A Poly in a part's boxes as one in the boxes of all parts."""
    ahead = (0,) * sum(part_counts[:part])
    behind = (0,) * sum(part_counts[part + 1:])
    return Poly(sum(part_counts), [(ahead + exponents + behind, number) for exponents, number in poly.terms()])


def put_inside(terms, part_polys, boxes):
    """What a sum comes to, in so many boxes, where each part has Polys of these in its boxes."""
    told = []
    for number, own in terms:
        product = Poly(boxes, [((0,) * boxes, number)])
        for polys, box in zip(part_polys, own):
            if box is not None:
                product = product.by(polys[box])
        told.extend(product.terms())
    return Poly(boxes, told)


def sum_of_poly(poly, part_counts):
    """The sum that a Poly in the boxes of all parts is, where no term has a part's boxes together; terms in order."""
    return raised_sum(poly, part_counts, [boxes_to(count, 1) for count in part_counts])
