"""Papers made: the sayings of a reader, each shown through each maker of its kind.

A saying put back through a maker is nought wherever its parts are trees. So it is a sum of the one part's sayings times
products of the other's boxes, and the other way round: what has the last term of a part's saying is taken away by that
saying, part by part, and nothing is left.
"""

from boughkept.fractions import divided
from boughkept.papers import entry_terms
from boughkept.polys import Poly
from boughkept.raised import apart, put_back
from boughkept.sayings import sayings_of
from boughkept.wholes import common_lower
from boughkept.woods import maker_table


def paper_for(wood, reader, degree=1):
    """A paper that holds, with the sayings to the degree."""
    counts, rules = reader
    sayings = sayings_of(wood, reader, degree)
    shown = []
    for maker, (kind, parts) in maker_table(wood).items():
        part_counts = [counts[part] for part in parts]
        part_sayings = [sayings[part] for part in parts]
        wholes = [put_back(wood, reader, maker, saying) for saying in sayings[kind]]
        shown.append(tuple([shown_by(whole, part_counts, part_sayings) for whole in wholes]))
    return (sayings, tuple(shown))


def shown_by(whole, part_counts, part_sayings):
    """(m, entries) by which m times a Poly that is nought at all trees is a sum of the parts' sayings."""
    entries = []
    for part, sayings in enumerate(part_sayings):
        taken = entries_of(whole, part, part_counts, sayings)
        whole = without(whole, taken, sayings)
        entries.extend(taken)
    times = common_lower([number[1] for number, part, at, other in entries])
    return (times, tuple([(number[0] * (times // number[1]), part, at, other) for number, part, at, other in entries]))


def entries_of(whole, part, part_counts, sayings):
    """Entries, with fractions, for all terms of a Poly that have the last term of a part's saying."""
    lasts = [saying.terms()[-1] for saying in sayings]
    places = {exponents: at for at, (exponents, last) in enumerate(lasts)}
    entries = []
    for exponents, number in whole.terms():
        own = apart(exponents, part_counts)
        if own[part] in places:
            at = places[own[part]]
            other = own[1 - part] if len(own) == 2 else None
            entries.append((divided(number, lasts[at][1]), part, at, other))
    return entries


def without(whole, entries, sayings):
    """A Poly less what entries, with fractions, of a part with these sayings come to."""
    terms = whole.terms()
    for number, part, at, other in entries:
        terms.extend(entry_terms((-number[0], number[1]), part, sayings[at], other))
    return Poly(whole.boxes, terms)
