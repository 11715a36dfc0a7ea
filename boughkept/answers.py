"""Answers: a polynomial is a sum of sayings, or a tree breaks it."""

from boughkept.fractions import divided
from boughkept.sayings import sayings_left
from boughkept.steps import grown_patches
from boughkept.wholes import fractions_in


def answered(wood, reader, kind, poly):
    """("always", numbers) of a Poly that is nought at every tree of the kind, else ("tree", a lowest other one)."""
    patch = grown_patches(wood, reader, max(1, poly.degree()))[kind]
    for height, tree, row in patch.told:
        if poly.worth(fractions_in(row)) != (0, 1):
            return ("tree", tree)
    return ("always", numbers_of(poly, sayings_left(patch)))


def numbers_of(poly, sayings):
    """The numbers by which the sayings come to the Poly: each last term stands in no other saying."""
    found = {exponents: number for exponents, number in poly.terms()}
    numbers = []
    for saying in sayings:
        exponents, last = saying.terms()[-1]
        numbers.append(divided(found.get(exponents, (0, 1)), last))
    return tuple(numbers)
