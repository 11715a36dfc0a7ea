"""[5] [6] Exponents in order, and Polys: made, told, reckoned with, held against one another, written."""

import itertools
import unittest
from fractions import Fraction

from boughkept.polys import Poly, exponents_to
from helpers import chance, pair


def in_order(rows):
    """Exponents ordered by degree, then the greater tuple first."""
    return sorted(sorted(rows, reverse=True), key=sum)


def some_fraction(source):
    if source.randrange(12) == 0:
        return Fraction(source.randrange(-10 ** 30 + 1, 10 ** 30), source.randrange(1, 10 ** 30))
    return Fraction(source.randrange(-6, 7), source.choice((1, 1, 2, 3, 4)))


def some_terms(source, boxes, most=8, greatest=4):
    """Terms in any order, some exponents twice, some numbers nought."""
    room = exponents_to(boxes, greatest)
    told = []
    for turn in range(source.randrange(most + 1)):
        told.append((source.choice(room), some_fraction(source)))
    if told and source.randrange(2):
        exponents, number = source.choice(told)
        told.append((exponents, source.choice((-number, number))))
    return told


def as_pairs(terms):
    return [(exponents, pair(number)) for exponents, number in terms]


def gathered(terms):
    """The same terms put together, by another way of reckoning."""
    sums = {}
    for exponents, number in terms:
        sums[exponents] = sums.get(exponents, 0) + number
    return [(exponents, sums[exponents]) for exponents in in_order(sums) if sums[exponents] != 0]


def text_of(terms):
    """The text of terms that are put together."""
    words = []
    for exponents, number in terms:
        word = str(number)
        for box, exponent in enumerate(exponents):
            if exponent:
                word += f" x{box}" + (f"^{exponent}" if exponent > 1 else "")
        words.append(word)
    return " + ".join(words) or "0"


class TestExponents(unittest.TestCase):
    def test_two_boxes(self):
        self.assertEqual(exponents_to(2, 2), [(0, 0), (1, 0), (0, 1), (2, 0), (1, 1), (0, 2)])
        self.assertEqual(exponents_to(2, 1), [(0, 0), (1, 0), (0, 1)])

    def test_no_boxes(self):
        for degree in range(1, 5):
            self.assertEqual(exponents_to(0, degree), [()])

    def test_one_box(self):
        self.assertEqual(exponents_to(1, 4), [(0,), (1,), (2,), (3,), (4,)])

    def test_all_in_order(self):
        for boxes in range(5):
            for degree in range(1, 5):
                rows = itertools.product(range(degree + 1), repeat=boxes)
                expected = in_order([row for row in rows if sum(row) <= degree])
                told = exponents_to(boxes, degree)
                self.assertIs(type(told), list)
                self.assertEqual(told, expected)

    def test_three_boxes_written_out(self):
        self.assertEqual(exponents_to(boxes=3, degree=2), [
            (0, 0, 0), (1, 0, 0), (0, 1, 0), (0, 0, 1),
            (2, 0, 0), (1, 1, 0), (1, 0, 1), (0, 2, 0), (0, 1, 1), (0, 0, 2),
        ])

    def test_a_new_list_each_time(self):
        told = exponents_to(2, 2)
        told.append("more")
        told[0] = None
        self.assertEqual(exponents_to(2, 2), [(0, 0), (1, 0), (0, 1), (2, 0), (1, 1), (0, 2)])


class TestMade(unittest.TestCase):
    def test_terms_in_any_order(self):
        terms = [((2, 1), (-2, 3)), ((0, 1), (5, 1)), ((0, 0), (1, 2)), ((1, 0), (-1, 1)), ((0, 2), (4, 1))]
        ordered = [((0, 0), (1, 2)), ((1, 0), (-1, 1)), ((0, 1), (5, 1)), ((0, 2), (4, 1)), ((2, 1), (-2, 3))]
        for mixed in itertools.permutations(terms):
            self.assertEqual(Poly(2, list(mixed)).terms(), ordered)
            self.assertEqual(Poly(2, mixed).terms(), ordered)

    def test_alike_added_and_noughts_left_out(self):
        terms = [((1,), (1, 2)), ((0,), (0, 1)), ((1,), (1, 3)), ((2,), (3, 1)), ((2,), (-3, 1)), ((3,), (0, 1))]
        self.assertEqual(Poly(1, terms).terms(), [((1,), (5, 6))])
        self.assertEqual(len(Poly(1, terms)), 1)
        self.assertEqual(Poly(1, [((1,), (1, 2)), ((1,), (-1, 2)), ((1,), (7, 1))]).terms(), [((1,), (7, 1))])
        self.assertEqual(Poly(1, [((4,), (1, 3))] * 3).terms(), [((4,), (1, 1))])

    def test_none_at_all(self):
        for none in (Poly(3), Poly(3, None), Poly(3, []), Poly(3, ()), Poly(3, [((0, 1, 0), (0, 1))])):
            self.assertEqual(none.terms(), [])
            self.assertEqual((none.boxes, len(none), none.degree(), str(none)), (3, 0, 0, "0"))
            self.assertEqual(none, Poly(3))
            self.assertEqual(none.worth(((1, 2), (3, 1), (0, 1))), (0, 1))

    def test_no_boxes(self):
        poly = Poly(0, [((), (1, 2)), ((), (1, 3))])
        self.assertEqual(poly.terms(), [((), (5, 6))])
        self.assertEqual((poly.boxes, poly.degree(), poly.worth(()), str(poly)), (0, 0, (5, 6), "5/6"))
        self.assertEqual(poly.by(poly).terms(), [((), (25, 36))])
        self.assertEqual(Poly(0).worth(()), (0, 1))

    def test_by_name(self):
        poly = Poly(terms=[((1,), (2, 1))], boxes=1)
        self.assertEqual((poly.boxes, poly.terms()), (1, [((1,), (2, 1))]))
        self.assertEqual(poly.worth(numbers=((3, 2),)), (3, 1))
        self.assertEqual(poly.plus(other=poly).terms(), [((1,), (4, 1))])
        self.assertEqual(poly.by(other=poly).terms(), [((2,), (4, 1))])
        self.assertEqual(poly.scaled(number=(1, 2)).terms(), [((1,), (1, 1))])

    def test_degree(self):
        self.assertEqual(Poly(2, [((0, 0), (1, 1))]).degree(), 0)
        self.assertEqual(Poly(2, [((1, 2), (1, 1)), ((0, 0), (1, 1)), ((2, 0), (1, 1))]).degree(), 3)
        self.assertEqual(Poly(2, [((2, 2), (1, 1)), ((1, 0), (1, 1)), ((2, 2), (-1, 1))]).degree(), 1)
        self.assertEqual(Poly(2, [((0, 1), (1, 1))]).degree(), 1)

    def test_some_of_each(self):
        source = chance(11)
        for turn in range(300):
            boxes = source.randrange(5)
            terms = some_terms(source, boxes)
            expected = gathered(terms)
            poly = Poly(boxes, as_pairs(terms))
            told = poly.terms()
            self.assertIs(type(told), list)
            self.assertEqual(told, as_pairs(expected))
            self.assertEqual(poly.boxes, boxes)
            self.assertEqual(len(poly), len(expected))
            self.assertEqual(poly.degree(), max([sum(exponents) for exponents, number in expected], default=0))
            self.assertEqual(str(poly), text_of(expected))
            self.assertEqual(repr(poly), f"Poly({boxes}, {text_of(expected)})")


class TestReckoned(unittest.TestCase):
    def test_worth_of_one(self):
        poly = Poly(2, [((0, 1), (5, 1)), ((2, 1), (-2, 3)), ((0, 0), (1, 2))])
        self.assertEqual(poly.worth(((3, 1), (1, 2))), (0, 1))
        self.assertEqual(poly.worth(((0, 1), (0, 1))), (1, 2))
        self.assertEqual(poly.worth(((-3, 2), (2, 1))), (15, 2))

    def test_against_fractions(self):
        source = chance(12)
        for turn in range(200):
            boxes = source.randrange(5)
            terms, others = some_terms(source, boxes), some_terms(source, boxes)
            one, other = Poly(boxes, as_pairs(terms)), Poly(boxes, as_pairs(others))
            number = some_fraction(source)
            products = []
            for exponents, mine in terms:
                for more, its in others:
                    products.append((tuple([a + b for a, b in zip(exponents, more)]), mine * its))
            scaled = [(exponents, mine * number) for exponents, mine in terms]
            for told, expected in (
                (one.plus(other), terms + others), (one.by(other), products), (one.scaled(pair(number)), scaled),
            ):
                self.assertIsInstance(told, Poly)
                self.assertEqual(told.boxes, boxes)
                self.assertEqual(told.terms(), as_pairs(gathered(expected)))
            numbers = [some_fraction(source) for box in range(boxes)]
            expected = Fraction(0)
            for exponents, mine in terms:
                for box, exponent in enumerate(exponents):
                    mine *= numbers[box] ** exponent
                expected += mine
            self.assertEqual(one.worth(tuple([pair(number) for number in numbers])), pair(expected))

    def test_to_nought(self):
        poly = Poly(1, [((1,), (1, 2)), ((0,), (3, 1))])
        self.assertEqual(poly.scaled((0, 1)), Poly(1))
        self.assertEqual(poly.plus(poly.scaled((-1, 1))), Poly(1))
        self.assertEqual(poly.by(Poly(1)), Poly(1))
        self.assertEqual(Poly(1).by(poly), Poly(1))
        self.assertEqual(poly.plus(Poly(1)), poly)
        self.assertEqual(Poly(1).plus(poly), poly)

    def test_product_in_which_terms_meet(self):
        one = Poly(2, [((1, 0), (1, 1)), ((0, 1), (1, 1))])
        other = Poly(2, [((1, 0), (1, 1)), ((0, 1), (-1, 1))])
        self.assertEqual(one.by(other).terms(), [((2, 0), (1, 1)), ((0, 2), (-1, 1))])
        self.assertEqual(one.by(one).terms(), [((2, 0), (1, 1)), ((1, 1), (2, 1)), ((0, 2), (1, 1))])


class TestHeldAgainst(unittest.TestCase):
    def test_alike(self):
        one = Poly(2, [((1, 0), (1, 2)), ((0, 1), (3, 1))])
        other = Poly(2, (((0, 1), (1, 1)), ((1, 0), (1, 2)), ((0, 1), (2, 1)), ((1, 1), (0, 1))))
        self.assertTrue(one == other)
        self.assertFalse(one != other)
        self.assertIs(one == other, True)

    def test_unlike(self):
        one = Poly(2, [((1, 0), (1, 2)), ((0, 1), (3, 1))])
        for other in (
            Poly(2), Poly(2, [((1, 0), (1, 2))]), Poly(2, [((1, 0), (1, 2)), ((0, 1), (-3, 1))]),
            Poly(2, [((1, 0), (3, 1)), ((0, 1), (1, 2))]), Poly(2, [((1, 0), (1, 2)), ((0, 1), (3, 1)), ((0, 0), (1, 1))]),
            Poly(2, [((1, 0), (1, 2)), ((0, 2), (3, 1))]), Poly(3, [((1, 0, 0), (1, 2)), ((0, 1, 0), (3, 1))]),
        ):
            self.assertFalse(one == other)
            self.assertFalse(other == one)
            self.assertTrue(one != other)

    def test_none_of_unlike_boxes(self):
        self.assertFalse(Poly(0) == Poly(1))
        self.assertFalse(Poly(2) == Poly(1))
        self.assertTrue(Poly(2) == Poly(2))

    def test_against_other_things(self):
        for poly in (Poly(1), Poly(1, [((0,), (1, 1))]), Poly(2, [((1, 0), (1, 2))])):
            for thing in (None, 0, 1, "", "0", "1", str(poly), repr(poly), (), [], {}, poly.terms(),
                          tuple(poly.terms()), (poly.boxes, poly.terms()), object(), (0, 1)):
                self.assertIs(poly == thing, False)
                self.assertIs(thing == poly, False)
                self.assertIs(poly != thing, True)

    def test_other_things_with_its_fields(self):
        class Like:
            def __init__(self):
                self.boxes = 1

            def terms(self):
                return []

            def __len__(self):
                return 0

            def __str__(self):
                return "0"

            def __repr__(self):
                return "Poly(1, 0)"

        self.assertFalse(Poly(1) == Like())


class TestWritten(unittest.TestCase):
    def test_texts(self):
        for boxes, terms, text in (
            (2, [((2, 1), (-2, 3)), ((0, 1), (5, 1))], "5 x1 + -2/3 x0^2 x1"),
            (0, [], "0"),
            (3, [], "0"),
            (1, [((0,), (-1, 1))], "-1"),
            (1, [((1,), (1, 1))], "1 x0"),
            (1, [((4,), (-1, 2)), ((0,), (7, 1))], "7 + -1/2 x0^4"),
            (4, [((1, 1, 1, 1), (1, 1)), ((0, 0, 0, 2), (1, 1))], "1 x3^2 + 1 x0 x1 x2 x3"),
            (12, [((0,) * 10 + (3, 1), (1, 1))], "1 x10^3 x11"),
        ):
            poly = Poly(boxes, terms)
            self.assertEqual(str(poly), text)
            self.assertEqual(repr(poly), f"Poly({boxes}, {text})")

    def test_great_numbers(self):
        great = 10 ** 3999 + 1
        poly = Poly(1, [((1,), (great, 10 ** 3999)), ((0,), (-great, 1))])
        figures = "1" + "0" * 3998 + "1"
        text = f"-{figures} + {figures}/1{'0' * 3999} x0"
        self.assertEqual(str(poly), text)
        self.assertEqual(repr(poly), f"Poly(1, {text})")


class TestKept(unittest.TestCase):
    def test_what_was_handed_in(self):
        terms = [((1,), (1, 2)), ((0,), (1, 1)), ((1,), (1, 2))]
        poly = Poly(1, terms)
        self.assertEqual(terms, [((1,), (1, 2)), ((0,), (1, 1)), ((1,), (1, 2))])
        terms.append(((2,), (5, 1)))
        terms[0] = ((3,), (5, 1))
        self.assertEqual(poly.terms(), [((0,), (1, 1)), ((1,), (1, 1))])
        self.assertEqual(str(poly), "1 + 1 x0")

    def test_what_was_told(self):
        poly = Poly(1, [((1,), (1, 2)), ((0,), (1, 1))])
        told = poly.terms()
        told.append(((2,), (5, 1)))
        told[0] = None
        self.assertEqual(poly.terms(), [((0,), (1, 1)), ((1,), (1, 2))])
        self.assertEqual((len(poly), poly.degree(), str(poly)), (2, 1, "1 + 1/2 x0"))
        none = Poly(1)
        none.terms().append(((1,), (1, 1)))
        self.assertEqual(none.terms(), [])
        self.assertEqual(Poly(1).terms(), [])

    def test_reckoning_changes_neither(self):
        one, other = Poly(1, [((1,), (1, 2))]), Poly(1, [((0,), (1, 3)), ((1,), (1, 2))])
        first = [str(one.plus(other)), str(one.by(other)), str(one.scaled((3, 1))), one.worth(((1, 5),))]
        self.assertEqual((str(one), str(other)), ("1/2 x0", "1/3 + 1/2 x0"))
        again = [str(one.plus(other)), str(one.by(other)), str(one.scaled((3, 1))), one.worth(((1, 5),))]
        self.assertEqual(first, again)
        self.assertEqual(first, ["1/3 + 1 x0", "1/6 x0 + 1/4 x0^2", "3/2 x0", (1, 10)])

    def test_sums_stand_by_themselves(self):
        one = Poly(1, [((1,), (1, 2))])
        for told in (one.plus(Poly(1)), one.by(Poly(1, [((0,), (1, 1))])), one.scaled((1, 1))):
            self.assertEqual(told, one)
            told.terms().clear()
            self.assertEqual(told, one)
        self.assertEqual(one.terms(), [((1,), (1, 2))])


if __name__ == "__main__":
    unittest.main()
