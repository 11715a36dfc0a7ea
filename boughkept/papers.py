"""Papers: (sayings, shown), by which each saying is shown, maker by maker, to be nought at every tree."""

from boughkept.fractions import multiplied
from boughkept.polys import Poly
from boughkept.raised import put_back
from boughkept.woods import maker_table


def paper_holds(wood, reader, paper):
    """Whether each saying, put back through each maker of its kind, is the sum that is shown of the parts' sayings."""
    counts, rules = reader
    sayings, shown = paper
    if not are_sayings_of(counts, sayings) or not are_so_many(wood, sayings, shown):
        return False
    for rows, (maker, (kind, parts)) in zip(shown, list(maker_table(wood).items())):
        part_counts = [counts[part] for part in parts]
        part_sayings = [sayings[part] for part in parts]
        for saying, (times, entries) in zip(sayings[kind], rows):
            if times < 1 or not all([is_entry(entry, part_counts, part_sayings) for entry in entries]):
                return False
            whole = put_back(wood, reader, maker, saying).scaled((times, 1))
            if not whole == sum_shown(entries, part_counts, part_sayings):
                return False
    return True


def are_sayings_of(counts, sayings):
    """Whether there is a row of Polys for each kind, in so many boxes as it has."""
    if len(sayings) != len(counts):
        return False
    return all([poly.boxes == count for own, count in zip(sayings, counts) for poly in own])


def are_so_many(wood, sayings, shown):
    """Whether something is shown for each maker and each saying of its kind."""
    kinds = [kind for kind, parts in maker_table(wood).values()]
    return [len(rows) for rows in shown] == [len(sayings[kind]) for kind in kinds]


def is_entry(entry, part_counts, part_sayings):
    """Whether the part and its saying are there, and exponents for just the boxes of another part, if there is one."""
    number, part, at, other = entry
    if not 0 <= part < len(part_counts) or not 0 <= at < len(part_sayings[part]):
        return False
    if len(part_counts) == 1 or other is None:
        return len(part_counts) == 1 and other is None
    return len(other) == part_counts[1 - part] and all([exponent >= 0 for exponent in other])


def sum_shown(entries, part_counts, part_sayings):
    """The Poly, in the boxes of all parts, that entries come to."""
    terms = []
    for number, part, at, other in entries:
        terms.extend(entry_terms((number, 1), part, part_sayings[part][at], other))
    return Poly(sum(part_counts), terms)


def entry_terms(number, part, saying, other):
    """The terms, in the boxes of all parts, of a fraction times a part's saying times what other tells."""
    beside = () if other is None else other
    terms = []
    for exponents, factor in saying.terms():
        together = exponents + beside if part == 0 else beside + exponents
        terms.append((together, multiplied(factor, number)))
    return terms
