"""[4] Fractions: made, reckoned with, written and read."""

import math
import re
import unittest
from fractions import Fraction

from boughkept.errors import Nought, NoText
from boughkept.fractions import (
    added, divided, fraction_of, is_less, multiplied, read_fraction, show_fraction, taken_away,
)
from helpers import SIGNS, chance, one_sign_off, pair, refusal

FORM = re.compile(r"(-?)(0|[1-9][0-9]{0,29})(?:/([1-9][0-9]{0,29}))?", re.ASCII)


def some_numbers(seed, many):
    """Whole numbers of either sign, small ones and some of thirty figures."""
    source = chance(seed)
    told = [0, 1, -1, 2, -2, 10 ** 29, 10 ** 30 - 1, -(10 ** 30 - 1), 6 * 10 ** 28]
    for figures in (1, 2, 5, 30):
        for turn in range(many):
            told.append(source.choice((-1, 1)) * source.randrange(10 ** figures))
    return told


def some_fractions(seed, many):
    numbers = some_numbers(seed, many)
    lowers = [number for number in numbers if number != 0]
    return [Fraction(upper, lower) for upper, lower in zip(numbers, lowers[::-1])]


def expected_of(text):
    """The fraction that a text tells by another way of reading, None where it is none."""
    found = FORM.fullmatch(text)
    if found is None:
        return None
    sign, upper, lower = found.group(1), int(found.group(2)), found.group(3)
    if sign and upper == 0:
        return None
    if lower is not None and (int(lower) == 1 or math.gcd(upper, int(lower)) != 1):
        return None
    return (-upper if sign else upper, 1 if lower is None else int(lower))


class TestMade(unittest.TestCase):
    def test_either_sign_of_either(self):
        self.assertEqual(fraction_of(6, 4), (3, 2))
        self.assertEqual(fraction_of(-6, 4), (-3, 2))
        self.assertEqual(fraction_of(6, -4), (-3, 2))
        self.assertEqual(fraction_of(-6, -4), (3, 2))
        self.assertEqual(fraction_of(0, 7), (0, 1))
        self.assertEqual(fraction_of(0, -7), (0, 1))
        self.assertEqual(fraction_of(8, 4), (2, 1))
        self.assertEqual(fraction_of(1, 3), (1, 3))
        self.assertEqual(fraction_of(-1, -1), (1, 1))

    def test_without_the_second(self):
        for number in some_numbers(1, 5):
            self.assertEqual(fraction_of(number), (number, 1))

    def test_by_name(self):
        self.assertEqual(fraction_of(lower=-4, upper=6), (-3, 2))
        self.assertEqual(fraction_of(upper=5), (5, 1))

    def test_lowest_terms_of_all(self):
        numbers = some_numbers(2, 8)
        for upper in numbers:
            for lower in numbers:
                if lower != 0:
                    told = fraction_of(upper, lower)
                    self.assertIs(type(told), tuple)
                    self.assertEqual(told, pair(Fraction(upper, lower)))
                    self.assertEqual([type(number) for number in told], [int, int])

    def test_over_nought(self):
        for upper in (0, 1, -1, 10 ** 29):
            refusal(Nought, fraction_of, upper, 0)
        refusal(Nought, fraction_of, upper=3, lower=0)


class TestReckoned(unittest.TestCase):
    def test_all_against_fractions(self):
        told = some_fractions(3, 8) + [Fraction(0), Fraction(1), Fraction(1, 2), Fraction(-1, 2), Fraction(2)]
        for one in told:
            for other in told:
                first, second = pair(one), pair(other)
                self.assertEqual(added(first, second), pair(one + other))
                self.assertEqual(taken_away(first, second), pair(one - other))
                self.assertEqual(multiplied(first, second), pair(one * other))
                self.assertIs(is_less(first, second), one < other)
                if other == 0:
                    refusal(Nought, divided, first, second)
                else:
                    self.assertEqual(divided(first, second), pair(one / other))

    def test_small_ones(self):
        self.assertEqual(added((1, 2), (1, 3)), (5, 6))
        self.assertEqual(added((1, 2), (-1, 2)), (0, 1))
        self.assertEqual(taken_away((1, 2), (1, 3)), (1, 6))
        self.assertEqual(taken_away((1, 3), (1, 2)), (-1, 6))
        self.assertEqual(multiplied((2, 3), (3, 4)), (1, 2))
        self.assertEqual(multiplied((2, 3), (0, 1)), (0, 1))
        self.assertEqual(divided((1, 2), (-3, 4)), (-2, 3))
        self.assertEqual(divided((0, 1), (-3, 4)), (0, 1))
        refusal(Nought, divided, (1, 2), (0, 1))
        refusal(Nought, divided, (0, 1), (0, 1))

    def test_less(self):
        self.assertIs(is_less((1, 3), (1, 2)), True)
        self.assertIs(is_less((1, 2), (1, 3)), False)
        self.assertIs(is_less((1, 2), (1, 2)), False)
        self.assertIs(is_less((-1, 2), (-1, 3)), True)
        self.assertIs(is_less((-1, 2), (0, 1)), True)
        self.assertIs(is_less((10 ** 30 - 1, 10 ** 29), (10 ** 30 - 1, 10 ** 29 - 1)), True)

    def test_by_name(self):
        self.assertEqual(added(other=(1, 2), one=(1, 3)), (5, 6))
        self.assertEqual(taken_away(other=(1, 2), one=(1, 3)), (-1, 6))
        self.assertEqual(multiplied(other=(1, 2), one=(1, 3)), (1, 6))
        self.assertEqual(divided(other=(1, 2), one=(1, 3)), (2, 3))
        self.assertIs(is_less(other=(1, 2), one=(1, 3)), True)


class TestWritten(unittest.TestCase):
    def test_small_ones(self):
        for one, text in (
            ((0, 1), "0"), ((1, 1), "1"), ((-1, 1), "-1"), ((10, 1), "10"), ((-120, 1), "-120"),
            ((1, 2), "1/2"), ((-1, 2), "-1/2"), ((3, 10), "3/10"), ((-20, 3), "-20/3"), ((100, 101), "100/101"),
        ):
            self.assertEqual(show_fraction(one), text)
            self.assertEqual(read_fraction(text), one)
            self.assertEqual(show_fraction(one=one), text)
            self.assertEqual(read_fraction(text=text), one)

    def test_each_is_read_back(self):
        for one in some_fractions(4, 40):
            text = show_fraction(pair(one))
            self.assertEqual(text, str(one))
            told = read_fraction(text)
            self.assertIs(type(told), tuple)
            self.assertEqual(told, pair(one))

    def test_figures_at_every_length(self):
        for figures in range(1, 200):
            for number in (10 ** figures, 10 ** figures - 1, 10 ** figures + 7, 12 * 10 ** figures):
                self.assertEqual(show_fraction((number, 1)), str(number))
                self.assertEqual(show_fraction((-number, 1)), str(-number))
                self.assertEqual(show_fraction((1, number)), f"1/{number}")

    def test_some_thousand_figures(self):
        for figures in (700, 1000, 3999, 4000):
            nines = 10 ** figures - 1
            ten = 10 ** (figures - 1)
            for one, text in (
                ((nines, 1), "9" * figures),
                ((-nines, 1), "-" + "9" * figures),
                ((ten, 1), "1" + "0" * (figures - 1)),
                ((ten, nines), "1" + "0" * (figures - 1) + "/" + "9" * figures),
                ((-1, ten), "-1/1" + "0" * (figures - 1)),
            ):
                self.assertEqual(show_fraction(one), text)
                self.assertEqual(refusal(NoText, read_fraction, text).row, 0)


class TestRefused(unittest.TestCase):
    def check(self, text):
        """Holds what is told of a text against another way of reading it."""
        expected = expected_of(text)
        if expected is None:
            self.assertEqual(refusal(NoText, read_fraction, text).row, 0)
        else:
            self.assertEqual(read_fraction(text), expected)

    def test_texts_that_are_none(self):
        for text in (
            "", "-", "+1", "+", " 1", "1 ", "1 /2", "1/ 2", "- 1", " ", "01", "00", "-01", "007/2", "1/02", "-0", "0/1",
            "-0/1", "1/1", "5/1", "-5/1", "2/4", "-2/4", "6/3", "0/5", "1/0", "0/0", "-1/0", "1/-2", "-1/-2", "1/+2",
            "/", "/2", "-/2", "1/", "1//2", "1/2/3", "1/2/", "--1", "1-", "1-2", "1.5", "1e5", "1_0", "0x1", "a",
            "1/a", "one", "1,0", "1\n", "\n1", "1/2\n", "1\n/2", "(1)", "1 2", "1;2", "~", "!",
        ):
            with self.subTest(text):
                self.assertEqual(refusal(NoText, read_fraction, text).row, 0)

    def test_thirty_and_thirty_one_figures(self):
        thirty, one_more = "1" + "0" * 28 + "3", "1" + "0" * 29 + "3"
        self.assertEqual((len(thirty), len(one_more)), (30, 31))
        self.assertEqual(read_fraction(thirty), (int(thirty), 1))
        self.assertEqual(read_fraction("-" + thirty), (-int(thirty), 1))
        self.assertEqual(read_fraction("1/" + thirty), (1, int(thirty)))
        self.assertEqual(read_fraction("-" + "9" * 30 + "/1" + "0" * 29), (1 - 10 ** 30, 10 ** 29))
        for text in (
            one_more, "-" + one_more, "1/" + one_more, "-1/" + one_more, one_more + "/2", thirty + "/" + one_more,
            "9" * 31, "1" + "0" * 30, "0" + thirty, "0" * 31, "9" * 640, "9" * 5000, "1/" + "9" * 5000, "9" * 7000,
        ):
            self.assertEqual(refusal(NoText, read_fraction, text).row, 0)

    def test_a_sign_off_at_any_place(self):
        signs = "0123456789-/+ .xe\n"
        texts = [show_fraction(pair(one)) for one in some_fractions(5, 6)]
        for text in texts + ["0", "1", "-1", "1/2", "-1/2", "-12/35", "10/3", "7" * 30 + "/2", "-" + "7" * 30]:
            for other in one_sign_off(text, signs):
                self.check(other)

    def test_any_sign_at_any_place(self):
        for text in ("0", "7", "-7", "7/3", "-10/21"):
            for other in one_sign_off(text, SIGNS):
                self.check(other)

    def test_all_short_texts(self):
        signs = "0124-/+ "
        texts = [""]
        for length in range(5):
            texts = [text + sign for text in texts for sign in signs]
            for text in texts:
                self.check(text)


class TestToldAgain(unittest.TestCase):
    def test_the_same_whatever_was_asked_between(self):
        first = [added((1, 2), (1, 3)), fraction_of(6, -4), show_fraction((-3, 2)), read_fraction("-3/2")]
        refusal(NoText, read_fraction, "x")
        refusal(Nought, divided, (1, 2), (0, 1))
        show_fraction((10 ** 3999, 3))
        again = [added((1, 2), (1, 3)), fraction_of(6, -4), show_fraction((-3, 2)), read_fraction("-3/2")]
        self.assertEqual(first, again)


if __name__ == "__main__":
    unittest.main()
