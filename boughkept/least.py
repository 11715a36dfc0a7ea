"""The least reader: the boxes that are no sum of 1 and of boxes ahead, and tables that tell the others by these."""

from boughkept.fractions import divided
from boughkept.inside import put_inside, sum_of_poly, widened
from boughkept.polys import Poly, unit_row
from boughkept.sayings import sayings_left
from boughkept.steps import grown_patches
from boughkept.woods import maker_table


def least_reader(wood, reader):
    """(reader, tables): a reader without boxes to spare, and for each kind the Polys by which it tells the first's."""
    counts, rules = reader
    patches = grown_patches(wood, reader, 1)
    kept = [kept_boxes(patch) for patch in patches]
    tables = [table_of(patch, own) for patch, own in zip(patches, kept)]
    least_rules = []
    for sums, (kind, parts) in zip(rules, list(maker_table(wood).values())):
        chosen = [sums[box] for box in kept[kind]]
        if any([len(patches[part].told) == 0 for part in parts]):
            # it makes no tree, so that what its sums tell is of no one
            chosen = [() for terms in chosen]
        least_rules.append(least_sums(chosen, [tables[part] for part in parts], [len(kept[part]) for part in parts]))
    return ((tuple([len(own) for own in kept]), tuple(least_rules)), tuple(tables))


def told_by_others(patch):
    """By its exponents, for each box that is a sum of 1 and of boxes ahead, the saying that ends with it."""
    return {saying.terms()[-1][0]: saying for saying in sayings_left(patch)}


def kept_boxes(patch):
    """The boxes that no others tell."""
    told = told_by_others(patch)
    return [box for box in range(patch.boxes) if unit_row(patch.boxes, box) not in told]


def table_of(patch, kept):
    """For each box a Poly in the kept ones."""
    told = told_by_others(patch)
    polys = []
    for box in range(patch.boxes):
        own = unit_row(patch.boxes, box)
        terms = terms_ahead(told[own]) if own in told else [(own, (1, 1))]
        polys.append(Poly(len(kept), [(tuple([exponents[at] for at in kept]), number) for exponents, number in terms]))
    return tuple(polys)


def terms_ahead(saying):
    """The terms, all of kept boxes, that tell a saying's last box."""
    terms = saying.terms()
    upper, lower = terms[-1][1]
    return [(exponents, divided(number, (-upper, lower))) for exponents, number in terms[:-1]]


def least_sums(sums, part_tables, part_counts):
    """A maker's sums with each part's boxes told by its table, in so many kept boxes."""
    part_polys = []
    for part, table in enumerate(part_tables):
        part_polys.append([widened(poly, part, part_counts) for poly in table])
    wholes = [put_inside(terms, part_polys, sum(part_counts)) for terms in sums]
    return tuple([sum_of_poly(whole, part_counts) for whole in wholes])
