"""Polynomials put back through makers, and readers raised to a degree."""

from boughkept.fractions import multiplied
from boughkept.polys import Poly, exponents_to
from boughkept.woods import maker_table, makers_of, parts_of


def rooms_of(reader, degree=1):
    """For each kind how many exponents its boxes have to the degree."""
    counts, rules = reader
    return [many_rooms(count, degree) for count in counts]


def many_rooms(boxes, degree):
    """How many exponents there are: the ways to share the degree out among the boxes and one more."""
    many = 1
    for step in range(1, degree + 1):
        many = many * (boxes + step) // step
    return many


def put_back(wood, reader, maker, poly):
    """The Poly in the parts' boxes that comes of one in the whole's."""
    counts, rules = reader
    part_counts = [counts[part] for part in parts_of(wood, maker)]
    sums = sum_polys(rules[makers_of(wood).index(maker)], part_counts)
    terms = []
    for exponents, number in poly.terms():
        product = product_of(sums, exponents, sum(part_counts))
        terms.extend([(own, multiplied(factor, number)) for own, factor in product.terms()])
    return Poly(sum(part_counts), terms)


def sum_polys(sums, part_counts):
    """A maker's sums as Polys in the boxes of all its parts, the first part's first."""
    boxes = sum(part_counts)
    return [Poly(boxes, [(marked(own, part_counts), number) for number, own in terms]) for terms in sums]


def marked(own, part_counts):
    """The exponents, in the boxes of all parts, of a term's own boxes."""
    exponents = []
    for box, count in zip(own, part_counts):
        exponents.extend([1 if at == box else 0 for at in range(count)])
    return tuple(exponents)


def product_of(polys, exponents, boxes):
    """The product of Polys of so many boxes, each as often as the exponents tell."""
    product = Poly(boxes, [((0,) * boxes, (1, 1))])
    for poly, exponent in zip(polys, exponents):
        for turn in range(exponent):
            product = product.by(poly)
    return product


def raised_to(wood, reader, degree=2):
    """The reader that has a box for each product of boxes to the degree."""
    counts, rules = reader
    raised_boxes = [boxes_to(count, degree) for count in counts]
    raised_rules = []
    for sums, (kind, parts) in zip(rules, list(maker_table(wood).values())):
        part_counts = [counts[part] for part in parts]
        part_boxes = [raised_boxes[part] for part in parts]
        polys = sum_polys(sums, part_counts)
        products = [product_of(polys, exponents, sum(part_counts)) for exponents in list(raised_boxes[kind])[1:]]
        raised_rules.append(tuple([raised_sum(product, part_counts, part_boxes) for product in products]))
    return (tuple([len(boxes) - 1 for boxes in raised_boxes]), tuple(raised_rules))


def boxes_to(count, degree):
    """For all exponents of so many boxes to the degree, in order, the raised box, None for the noughts ahead."""
    return {exponents: None if at == 0 else at - 1 for at, exponents in enumerate(exponents_to(count, degree))}


def raised_sum(poly, part_counts, part_boxes):
    """A Poly in the boxes of all parts as a sum over their raised boxes."""
    terms = []
    for exponents, number in poly.terms():
        own = apart(exponents, part_counts)
        terms.append((number, tuple([boxes[part] for boxes, part in zip(part_boxes, own)])))
    return tuple(sorted(terms, key=term_place))


def apart(exponents, part_counts):
    """The exponents of each part's boxes."""
    cut = []
    start = 0
    for count in part_counts:
        cut.append(exponents[start:start + count])
        start += count
    return cut


def term_place(term):
    """What terms are ordered by: their boxes, the first part's first, None ahead of all numbers."""
    number, boxes = term
    return tuple([-1 if box is None else box for box in boxes])
