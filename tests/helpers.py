"""What several tests use: asking for a refusal, seeded chance, and texts that differ in one sign."""

import random
from fractions import Fraction


def refusal(kind, ask, *told, **named):
    """The refusal of just this kind that comes of the asking."""
    try:
        answer = ask(*told, **named)
    except kind as refused:
        if type(refused) is not kind:
            raise AssertionError(f"{type(refused)} instead of {kind}") from refused
        return refused
    raise AssertionError(f"{answer!r} was told, where {kind.__name__} is due, of {str(told)[:300]}")


def chance(seed):
    return random.Random(seed)


def pair(number):
    """A Fraction as the program's tuple."""
    number = Fraction(number)
    return (number.numerator, number.denominator)


def one_sign_off(text, signs):
    """All texts that come of this one by a sign put in, left out, doubled or put for another."""
    told = set()
    for at in range(len(text) + 1):
        for sign in signs:
            told.add(text[:at] + sign + text[at:])
            told.add(text[:at] + sign + text[at + 1:])
        told.add(text[:at] + text[at + 1:])
        told.add(text[:at] + text[at:at + 1] + text[at:])
    return sorted(told)
