"""Polynomials of some boxes, with fractions for numbers."""

from boughkept.fractions import added, multiplied, show_fraction


def exponents_to(boxes, degree):
    """All exponents of so many boxes to a degree, in order."""
    rows = []
    for total in range(degree + 1):
        rows.extend(exponents_of(boxes, total))
    return rows


def exponents_of(boxes, total):
    """All exponents of so many boxes whose sum is total, the greater tuple first."""
    begun = [((), total)]
    for box in range(boxes):
        begun = [(ahead + (taken,), left - taken) for ahead, left in begun for taken in range(left, -1, -1)]
    return [exponents for exponents, left in begun if left == 0]


def place_of(exponents):
    """What exponents are ordered by: the lesser degree first, then the greater tuple."""
    return (sum(exponents), tuple([-number for number in exponents]))


def unit_row(many, at):
    """So many numbers, one of them 1, the others nought."""
    return tuple([1 if place == at else 0 for place in range(many)])


def put_together(terms):
    """The terms in order, alike exponents added, noughts left out."""
    sums = {}
    for exponents, number in terms:
        sums[exponents] = added(sums[exponents], number) if exponents in sums else number
    order = sorted(list(sums), key=place_of)
    return tuple([(exponents, sums[exponents]) for exponents in order if sums[exponents][0] != 0])


def show_term(exponents, number):
    """A term's text: its fraction, then its boxes with their exponents."""
    words = [show_fraction(number)]
    for box, exponent in enumerate(exponents):
        if exponent == 1:
            words.append(f"x{box}")
        elif exponent > 1:
            words.append(f"x{box}^{exponent}")
    return " ".join(words)


class Poly:
    """A polynomial of so many boxes."""

    def __init__(self, boxes, terms=None):
        self.boxes = boxes
        self.kept_terms = () if terms is None else put_together(terms)

    def terms(self):
        """The terms (exponents, fraction), in order."""
        return list(self.kept_terms)

    def degree(self):
        """The greatest degree of a term, 0 of none."""
        return max([sum(exponents) for exponents, number in self.kept_terms], default=0)

    def worth(self, numbers):
        """What comes of it where each box has the number given for it."""
        total = (0, 1)
        for exponents, number in self.kept_terms:
            product = number
            for box, exponent in enumerate(exponents):
                for turn in range(exponent):
                    product = multiplied(product, numbers[box])
            total = added(total, product)
        return total

    def plus(self, other):
        """The sum of both."""
        return Poly(self.boxes, self.kept_terms + other.kept_terms)

    def by(self, other):
        """The product of both."""
        products = []
        for exponents, number in self.kept_terms:
            for others, factor in other.kept_terms:
                together = tuple([mine + its for mine, its in zip(exponents, others)])
                products.append((together, multiplied(number, factor)))
        return Poly(self.boxes, products)

    def scaled(self, number):
        """It times a fraction."""
        return Poly(self.boxes, [(exponents, multiplied(own, number)) for exponents, own in self.kept_terms])

    def __eq__(self, other):
        return isinstance(other, Poly) and self.boxes == other.boxes and self.kept_terms == other.kept_terms

    def __len__(self):
        return len(self.kept_terms)

    def __str__(self):
        if len(self.kept_terms) == 0:
            return "0"
        return " + ".join([show_term(exponents, number) for exponents, number in self.kept_terms])

    def __repr__(self):
        return f"Poly({self.boxes}, {str(self)})"


def box_poly(boxes, box):
    """The Poly that is one of so many boxes."""
    return Poly(boxes, [(unit_row(boxes, box), (1, 1))])
