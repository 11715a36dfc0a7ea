"""Readers: (counts, rules), by which each tree has numbers in boxes."""

from boughkept.errors import NoReader
from boughkept.fractions import common_divisor
from boughkept.wholes import fractions_in, lowest_row, row_made, whole_rules
from boughkept.woods import maker_table

MOST_BOXES = 4


def look_reader(wood, reader):
    """True, or NoReader by the first thing that is amiss."""
    counts, rules = reader
    table = maker_table(wood)
    if len(counts) != len(wood) or not all([0 <= count <= MOST_BOXES for count in counts]):
        raise NoReader("counts", "")
    if len(rules) != len(table):
        raise NoReader("rules", "")
    for maker, sums in zip(list(table), rules):
        kind, parts = table[maker]
        look_sums(maker, sums, counts[kind], [counts[part] for part in parts])
    return True


def look_sums(maker, sums, count, part_counts):
    """Refuses a maker's sums that aren't one for each box, and the first term that can't stand."""
    if len(sums) != count:
        raise NoReader("sums", maker)
    for terms in sums:
        for number, boxes in terms:
            if not is_fraction(number):
                raise NoReader("number", maker)
            if len(boxes) != len(part_counts):
                raise NoReader("parts", maker)
            if not all([box is None or 0 <= box < own for box, own in zip(boxes, part_counts)]):
                raise NoReader("box", maker)


def is_fraction(number):
    """Whether a pair of whole numbers is in lowest terms, the second from 1 on."""
    upper, lower = number
    return lower >= 1 and common_divisor(abs(upper), lower) == 1


def boxes_at(wood, reader, tree):
    """The fractions in the whole's boxes."""
    return fractions_in(rows_at(wood, reader, tree)[-1])


def all_boxes_at(wood, reader, tree):
    """For each row of the tree the fractions in its boxes."""
    return [fractions_in(row) for row in rows_at(wood, reader, tree)]


def rows_at(wood, reader, tree):
    """For each row of the tree its boxes as a row of whole numbers."""
    rules = whole_rules(wood, reader)
    told = []
    for maker, parts in tree:
        told.append(lowest_row(row_made(rules[maker], [told[part] for part in parts])))
    return told
