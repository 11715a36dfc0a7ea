"""Reading a Poly's text."""

from boughkept.errors import NoBox, NoText
from boughkept.fractions import is_short, read_fraction
from boughkept.polys import Poly, place_of


def read_poly(text, boxes):
    """The Poly of so many boxes whose text this is."""
    if text == "0":
        return Poly(boxes)
    rows = [read_term(piece) for piece in text.split(" + ")]
    named = [box for number, powers in rows for box, exponent in powers]
    width = max([boxes] + [box + 1 for box in named])
    terms = [(spread(powers, width), number) for number, powers in rows]
    look_order([place_of(exponents) for exponents, number in terms])
    # only what is the text of some Poly is refused for its boxes
    for box in named:
        if box >= boxes:
            raise NoBox(box)
    return Poly(boxes, terms)


def read_term(text):
    """A term's fraction and its pairs (box, exponent)."""
    words = text.split(" ")
    number = read_fraction(words[0])
    if number[0] == 0:
        raise NoText(0)
    powers = [read_power(word) for word in words[1:]]
    look_order([box for box, exponent in powers])
    return (number, powers)


def read_power(word):
    """The box and the exponent of `xI` or `xI^E`."""
    if not word.startswith("x"):
        raise NoText(0)
    box_text, roof, exponent_text = word[1:].partition("^")
    if not is_short(box_text):
        raise NoText(0)
    if roof == "":
        return (int(box_text), 1)
    if len(exponent_text) != 1 or exponent_text not in "23456789":
        raise NoText(0)
    return (int(box_text), int(exponent_text))


def look_order(places):
    """Refuses what doesn't rise."""
    for at in range(1, len(places)):
        if places[at - 1] >= places[at]:
            raise NoText(0)


def spread(powers, width):
    """The exponents of so many boxes that these pairs tell."""
    exponents = [0] * width
    for box, exponent in powers:
        exponents[box] = exponent
    return tuple(exponents)
