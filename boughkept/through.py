"""Readers, printers and turners behind a turner: they tell of a tree what is told of the turned one."""

from boughkept.inside import put_inside, sum_of_poly, widened
from boughkept.polys import box_poly
from boughkept.trees import done_in_order
from boughkept.turners import pattern_whole
from boughkept.woods import maker_table, makers_of


def read_through(first, second, turner, reader):
    """The reader of the first wood that tells what the second's tells of the turned tree."""
    kinds, patterns = turner
    counts, rules = reader
    sums_of = {maker: sums for maker, sums in zip(makers_of(second), rules)}
    told = []
    for pattern, (kind, parts) in zip(patterns, list(maker_table(first).values())):
        part_counts = [counts[kinds[part]] for part in parts]
        wholes = pattern_polys(pattern, sums_of, part_counts)
        told.append(tuple([sum_of_poly(whole, part_counts) for whole in wholes]))
    return (tuple([counts[kind] for kind in kinds]), tuple(told))


def pattern_polys(pattern, sums_of, part_counts):
    """What a pattern's whole has in its boxes, as Polys in the boxes of all turned parts."""
    return pattern_whole(
        pattern,
        lambda part: part_polys(part, part_counts),
        lambda maker, own: [put_inside(terms, own, sum(part_counts)) for terms in sums_of[maker]],
    )


def part_polys(part, part_counts):
    """A part's boxes as Polys in the boxes of all parts."""
    boxes = part_counts[part]
    return [widened(box_poly(boxes, box), part, part_counts) for box in range(boxes)]


def print_through(first, second, turner, printer):
    """The printer of the first wood that tells what the second's tells of the turned tree."""
    kinds, patterns = turner
    letters, counts, rules = printer
    rows_of = {maker: rows for maker, rows in zip(makers_of(second), rules)}
    told = []
    for pattern, (kind, parts) in zip(patterns, list(maker_table(first).values())):
        wholes = pattern_rows(pattern, rows_of, [counts[kinds[part]] for part in parts])
        told.append(tuple([texts_together(items) for items in wholes]))
    return (letters, tuple([counts[kind] for kind in kinds]), tuple(told))


def pattern_rows(pattern, rows_of, part_counts):
    """What a pattern's whole has in its boxes, as rows of items of all turned parts."""
    return pattern_whole(
        pattern,
        lambda part: [[(part, box)] for box in range(part_counts[part])],
        lambda maker, own: [items_inside(items, own) for items in rows_of[maker]],
    )


def items_inside(items, part_rows):
    """A row's items, each part's box being a row of items itself."""
    told = []
    for item in items:
        told.extend([item] if isinstance(item, str) else part_rows[item[0]][item[1]])
    return told


def texts_together(items):
    """The items with texts that stand beside one another put together."""
    told = []
    for item in items:
        if isinstance(item, str) and len(told) > 0 and isinstance(told[-1], str):
            told[-1] = told[-1] + item
        else:
            told.append(item)
    return tuple(told)


def turned_through(first, second, third, turner, other):
    """The turner from the first wood to the third that turns as both, one behind the other."""
    kinds, patterns = turner
    its_kinds, its_patterns = other
    pattern_of = {maker: pattern for maker, pattern in zip(makers_of(second), its_patterns)}
    told = tuple([pattern_through(pattern, pattern_of) for pattern in patterns])
    return (tuple([its_kinds[kind] for kind in kinds]), told)


def pattern_through(pattern, pattern_of):
    """A pattern with each row's maker turned by its own pattern, the rows in the order in which they are done."""
    rows = []

    def maker_row(maker, parts):
        return pattern_whole(
            pattern_of[maker],
            lambda part: parts[part],
            lambda name, own: laid(rows, (name, tuple(own))),
        )

    # a part's row stands as one of a maker of no parts, so that all rows are alike in form
    whole = pattern_whole(pattern, lambda part: laid(rows, (("part", part), ())), maker_row)
    return tuple([(name, own) if isinstance(name, str) else name for name, own in done_in_order(rows, whole)])


def laid(rows, row):
    """The number of a row that is laid behind the others."""
    rows.append(row)
    return len(rows) - 1
