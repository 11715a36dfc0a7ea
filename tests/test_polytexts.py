"""[6] Polys' texts: read back, or refused."""

import re
import unittest
from fractions import Fraction

from boughkept.errors import NoBox, NoText
from boughkept.polys import Poly
from boughkept.polytexts import read_poly
from helpers import SIGNS, chance, one_sign_off, pair, refusal

NUMBER = r"-?[0-9]{1,30}(?:/[0-9]{1,30})?"
TERM = re.compile(rf"({NUMBER})((?: x[0-9]{{1,2}}(?:\^[0-9])?)*)", re.ASCII)


def rebuilt(text):
    """The terms {(box, exponent), ..} -> Fraction that a text seems to tell, and its boxes from the left."""
    told, named = [], []
    for piece in text.split(" + "):
        found = TERM.fullmatch(piece)
        if found is None:
            return None
        try:
            number = Fraction(found.group(1))
        except ZeroDivisionError:
            return None
        powers = []
        for word in found.group(2).split():
            box, roof, exponent = word[1:].partition("^")
            powers.append((int(box), int(exponent or "1")))
            named.append(int(box))
        told.append((powers, number))
    return told, named


def written(told):
    """The one text of these terms, None where they can't be those of a Poly."""
    rows = {}
    for powers, number in told:
        exponents = [0] * 100
        for box, exponent in powers:
            exponents[box] = exponent
        if number == 0 or tuple(exponents) in rows:
            return None
        rows[tuple(exponents)] = number
    words = []
    for exponents in sorted(sorted(rows, reverse=True), key=sum):
        word = str(rows[exponents])
        for box, exponent in enumerate(exponents):
            if exponent:
                word += f" x{box}" + (f"^{exponent}" if exponent > 1 else "")
        words.append(word)
    return " + ".join(words)


class TestReadBack(unittest.TestCase):
    def check(self, text, boxes):
        """Holds what is told of a text against another way of reading it."""
        if text == "0":
            self.assertEqual(read_poly(text, boxes), Poly(boxes))
            return
        found = rebuilt(text)
        if found is None or written(found[0]) != text:
            self.assertEqual(refusal(NoText, read_poly, text, boxes).row, 0)
            return
        told, named = found
        over = [box for box in named if box >= boxes]
        if over:
            self.assertEqual(refusal(NoBox, read_poly, text, boxes).box, over[0])
            return
        terms = []
        for powers, number in told:
            exponents = [0] * boxes
            for box, exponent in powers:
                exponents[box] = exponent
            terms.append((tuple(exponents), pair(number)))
        poly = read_poly(text, boxes)
        self.assertEqual((poly.boxes, poly.terms(), str(poly)), (boxes, terms, text))

    def some_poly(self, source, boxes, greatest=3):
        terms = []
        for turn in range(source.randrange(6)):
            exponents = tuple([source.choice((0, 0, 1, source.randrange(greatest + 1))) for box in range(boxes)])
            number = Fraction(source.randrange(-30, 31), source.choice((1, 1, 2, 7, 12)))
            terms.append((exponents, pair(number)))
        return Poly(boxes, terms)

    def test_each_text_is_read_back(self):
        source = chance(21)
        for turn in range(400):
            boxes = source.randrange(5)
            poly = self.some_poly(source, boxes)
            told = read_poly(str(poly), boxes)
            self.assertIsInstance(told, Poly)
            self.assertEqual(told, poly)
            self.assertEqual(told.terms(), poly.terms())

    def test_in_more_boxes(self):
        self.assertEqual(read_poly("5 x1 + -2/3 x0^2 x1", 2).terms(), [((0, 1), (5, 1)), ((2, 1), (-2, 3))])
        self.assertEqual(read_poly("5 x1 + -2/3 x0^2 x1", 4).terms(),
                         [((0, 1, 0, 0), (5, 1)), ((2, 1, 0, 0), (-2, 3))])
        self.assertEqual(read_poly("3", 0).terms(), [((), (3, 1))])
        self.assertEqual(read_poly("3", 2).terms(), [((0, 0), (3, 1))])
        self.assertEqual(read_poly(boxes=1, text="-1/2 x0^9"), Poly(1, [((9,), (-1, 2))]))

    def test_nought(self):
        for boxes in range(5):
            self.assertEqual(read_poly("0", boxes), Poly(boxes))

    def test_boxes_of_two_figures(self):
        wide = Poly(100, [((0,) * 99 + (2,), (1, 1)), ((0,) * 10 + (1,) + (0,) * 89, (1, 2)), ((1,) * 100, (3, 1))])
        self.assertEqual(read_poly(str(wide), 100), wide)
        self.assertEqual(refusal(NoBox, read_poly, "1 x99", 99).box, 99)
        self.assertEqual(refusal(NoText, read_poly, "1 x100", 4).row, 0)

    def test_thirty_figures(self):
        nines = "9" * 30
        poly = Poly(1, [((0,), (-int(nines), 10 ** 29)), ((1,), (int(nines), 1))])
        self.assertEqual(read_poly(str(poly), 1), poly)
        for text in ("9" * 31, f"1/{'9' * 31} x0", f"1 + {'9' * 31} x0", f"-{'9' * 4000} x0", f"1 x0 + {'9' * 5000} x0^2"):
            self.assertEqual(refusal(NoText, read_poly, text, 1).row, 0)
        self.assertEqual(refusal(NoText, read_poly, f"1 x5 + {'9' * 31} x6", 1).row, 0)

    def test_exponents_of_one_figure(self):
        for exponent in range(2, 10):
            self.assertEqual(read_poly(f"1 x0^{exponent}", 1), Poly(1, [((exponent,), (1, 1))]))
        tenth = Poly(1, [((10,), (1, 1))])
        self.assertEqual(str(tenth), "1 x0^10")
        for text in ("1 x0^10", "1 x0^99", "1 x0^1", "1 x0^0", "1 x0^", "1 x0^02", "1 x0^-2", "1 x0^2^2", "1 x0^x0"):
            self.assertEqual(refusal(NoText, read_poly, text, 1).row, 0)

    def test_no_such_box(self):
        for text, boxes, box in (
            ("1 x0", 0, 0), ("1 x1", 1, 1), ("1 x0 + 1 x1", 1, 1), ("1 x0 + 1 x2", 1, 2), ("1 x3 + 1 x2^2", 2, 3),
            ("1 x2 + 1 x3", 2, 2), ("1 x0 x4 x7", 1, 4), ("1 + 2 x0 + 1/2 x1 x98", 2, 98), ("1 x9 + 1 x10", 4, 9),
            ("1 x9 + 1 x10", 10, 10), ("5 x10 + 1 x3^2", 4, 10), ("-1 x4^9", 4, 4), ("1 x2 + 1 x0 x3", 2, 2),
            ("1 x0 + 1 x3 + 1 x2^2 + 1 x1^3", 1, 3),
        ):
            with self.subTest(text):
                self.assertEqual(refusal(NoBox, read_poly, text, boxes).box, box)

    def test_any_other_text(self):
        for text in (
            "", " ", "x0", "+", " + ", "1 +", "1 + ", "+ 1", " + 1", "1 + + 1 x0", "1  x0", " 1 x0", "1 x0 ", "1 x0\n",
            "1\nx0", "1 + 1 x0 +", "1 +1 x0", "1+ 1 x0", "1+1 x0", "1  + 1 x0", "1 +  1 x0", "1 - 1 x0", "1x0", "1 x0x1",
            "1 x0 * x1", "1 * x0", "1 x", "1 x^2", "1 y0", "1 X0", "1 x00", "1 x01", "1 x-1", "1 x0 2", "1 2", "1 x0 1/2",
            "0 x0", "0 + 1 x0", "1 + 0 x0", "-0", "-0 x0", "+1 x0", "01 x0", "2/4 x0", "1/1 x0", "1/0 x0", "1/-2 x0",
            "1 x0 + 1", "1 x1 + 1 x0", "1 x0^2 + 1 x0", "1 x0 x1 + 1 x0^2", "1 x1^2 + 1 x0 x1", "1 x0^2 + 1 x1",
            "1 x0 + 1 x0", "1 + 2", "1 x0 + -1 x0", "1 x0 x1 + 1 x0 x1", "1 x1 x0", "1 x0 x0", "1 x0 x0^2", "1 x0^2 x0",
            "1 x0^1", "1 x0^0", "1 x0 x1^1", "1 x0^10", "1 x100", "1 x123", "1 (x0)", "1 x0;", "0 ", " 0", "00", "0 + 0",
            "1 x0 +\n1 x1", "1 x0 ++ 1 x1", "1, x0", "Poly(1, 0)", "none",
        ):
            for boxes in (0, 2, 4):
                with self.subTest(text=text, boxes=boxes):
                    self.assertEqual(refusal(NoText, read_poly, text, boxes).row, 0)

    def test_no_text_ahead_of_no_box(self):
        for text in (
            "1 x9 + 1", "1 x9 + 1 x9", "1 x9 + 1 x8", "1 x9 x8", "1 x9 + 1 x0^1", "1 x9 + 0 x9^2", "1 x9 + ", "0 x9",
            "1 x9^1", "1 x99 + 1 x100", "1 x7 + 2/4 x8", "1 x9 ", "x9", "1 x9 + 1 x10 x9",
        ):
            with self.subTest(text):
                self.assertEqual(refusal(NoText, read_poly, text, 2).row, 0)

    def test_a_sign_off_at_any_place(self):
        source = chance(22)
        texts = ["5 x1 + -2/3 x0^2 x1", "1 x0", "-1/2 + 1 x3^2", "1 x2 x3 + 7 x0 x1 x2", "1 x10 + 1 x11", "12"]
        while len(texts) < 24:
            text = str(self.some_poly(source, 1 + source.randrange(4)))
            if len(text) < 60:
                texts.append(text)
        for text in texts:
            for other in one_sign_off(text, "0123459x^-+/ "):
                for boxes in (1, 4):
                    self.check(other, boxes)

    def test_any_sign_at_any_place(self):
        for text in ("0", "5", "1 x0", "-1/2 x0 x1^2", "3 x2 + 1 x0^2"):
            for other in one_sign_off(text, SIGNS):
                for boxes in (0, 3):
                    self.check(other, boxes)

    def test_terms_moved_about(self):
        source = chance(23)
        for turn in range(300):
            pieces = str(self.some_poly(source, 3)).split(" + ")
            source.shuffle(pieces)
            if source.randrange(3) == 0:
                pieces.append(source.choice(pieces))
            for boxes in (1, 3):
                self.check(" + ".join(pieces), boxes)

    def test_powers_moved_about(self):
        source = chance(24)
        for turn in range(300):
            words = [f"x{source.randrange(12)}" + source.choice(("", "", "^2", "^9", "^1")) for word in range(3)]
            self.check(" ".join(["1"] + words), 4)
            self.check(" ".join(["1"] + words[:2]) + " + " + " ".join(["-3/2"] + words[1:]), 11)

    def test_told_again(self):
        first = read_poly("1 x0 + 2 x1", 2)
        first.terms().clear()
        refusal(NoBox, read_poly, "1 x0 + 2 x1", 1)
        refusal(NoText, read_poly, "1 x0 + 2 x0", 2)
        self.assertEqual(read_poly("1 x0 + 2 x1", 2), first)
        self.assertEqual(str(first), "1 x0 + 2 x1")


if __name__ == "__main__":
    unittest.main()
