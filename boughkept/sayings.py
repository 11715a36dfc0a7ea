"""Sayings: polynomials that are nought at every tree of a kind."""

from boughkept.polys import Poly
from boughkept.steps import grown_patches


def sayings_of(wood, reader, degree=1):
    """For each kind the row of its sayings to the degree."""
    return tuple([sayings_left(patch) for patch in grown_patches(wood, reader, degree)])


def sayings_left(patch):
    """The sayings of a Patch as Polys."""
    return tuple([saying_poly(patch, saying) for saying in patch.left])


def saying_poly(patch, saying):
    return Poly(patch.boxes, [(exponents, (number, 1)) for exponents, number in zip(patch.rooms, saying)])
