"""Fractions: tuples (a, b) of whole numbers in lowest terms, b from 1 on."""

from boughkept.errors import Nought, NoText

FIGURES = "0123456789"
MOST_FIGURES = 30
PIECE_FIGURES = 60
PIECE = 10 ** 60


def fraction_of(upper, lower=1):
    """The fraction of two whole numbers."""
    if lower == 0:
        raise Nought()
    if lower < 0:
        upper = -upper
        lower = -lower
    common = common_divisor(abs(upper), lower)
    return (upper // common, lower // common)


def common_divisor(one, other):
    """The greatest common divisor of two numbers from 0 on, 0 of two noughts."""
    while other != 0:
        one, other = other, one % other
    return one


def added(one, other):
    return fraction_of(one[0] * other[1] + other[0] * one[1], one[1] * other[1])


def taken_away(one, other):
    """The first less the second."""
    return fraction_of(one[0] * other[1] - other[0] * one[1], one[1] * other[1])


def multiplied(one, other):
    return fraction_of(one[0] * other[0], one[1] * other[1])


def divided(one, other):
    """The first over the second."""
    return fraction_of(one[0] * other[1], one[1] * other[0])


def is_less(one, other):
    return one[0] * other[1] < other[0] * one[1]


def show_fraction(one):
    """`A`, or `A/B` where B isn't 1."""
    upper, lower = one
    if lower == 1:
        return show_whole(upper)
    return show_whole(upper) + "/" + show_whole(lower)


def show_whole(number):
    """A whole number's figures, piece by piece: str alone refuses some thousand of them."""
    left = abs(number)
    pieces = []
    while left >= PIECE:
        left, piece = divmod(left, PIECE)
        pieces.append(str(piece).zfill(PIECE_FIGURES))
    pieces.append(str(left))
    sign = "-" if number < 0 else ""
    return sign + "".join(reversed(pieces))


def read_fraction(text):
    """The fraction that is written just so, else NoText(0)."""
    upper_text, line, lower_text = text.partition("/")
    upper = read_signed(upper_text)
    if line == "":
        return (upper, 1)
    lower = read_figures(lower_text)
    if lower < 2 or common_divisor(abs(upper), lower) != 1:
        raise NoText(0)
    return (upper, lower)


def read_signed(text):
    """A whole number, `-` ahead where it is below nought."""
    if not text.startswith("-"):
        return read_figures(text)
    number = read_figures(text[1:])
    if number == 0:
        raise NoText(0)
    return -number


def read_figures(text):
    """A whole number from 0 on, of figures alone, without a nought ahead of others."""
    if not 1 <= len(text) <= MOST_FIGURES:
        raise NoText(0)
    if not all([sign in FIGURES for sign in text]):
        raise NoText(0)
    if len(text) > 1 and text[0] == "0":
        raise NoText(0)
    return int(text)


def is_short(text):
    """Whether these are one or two figures, without a nought ahead of another."""
    if not 1 <= len(text) <= 2 or not all([sign in FIGURES for sign in text]):
        return False
    return len(text) == 1 or text[0] != "0"
