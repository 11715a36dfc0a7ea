"""Turners: (kinds, patterns), by which each tree of a wood is turned into one of another."""

from boughkept.errors import NoTurner
from boughkept.trees import done_in_order, number_of_row
from boughkept.woods import maker_table, makers_of


def look_turner(first, second, turner):
    """True, or NoTurner by the first thing that is amiss."""
    kinds, patterns = turner
    table = maker_table(first)
    its_table = maker_table(second)
    if len(kinds) != len(first) or not all([0 <= kind < len(second) for kind in kinds]):
        raise NoTurner("kinds", "")
    if len(patterns) != len(table):
        raise NoTurner("patterns", "")
    for pattern, (maker, (kind, parts)) in zip(patterns, list(table.items())):
        look_pattern(maker, pattern, its_table, [kinds[part] for part in parts], kinds[kind])
    return True


def look_pattern(maker, pattern, its_table, part_kinds, wanted):
    """Refuses a maker's pattern that can't stand; its parts and its whole are turned into these kinds."""
    if len(pattern) == 0:
        raise NoTurner("rows", maker)
    row_kinds = []
    parts_stood = {}
    rows_stood = {}
    for name, told in pattern:
        # also of a maker called part, a maker's row has a tuple there
        if isinstance(told, tuple):
            look_made(maker, (name, told), its_table, row_kinds, rows_stood)
            row_kinds.append(its_table[name][0])
        else:
            if told in parts_stood or not 0 <= told < len(part_kinds):
                raise NoTurner("part", maker)
            parts_stood[told] = True
            row_kinds.append(part_kinds[told])
    if len(rows_stood) < len(pattern) - 1:
        raise NoTurner("spare", maker)
    if row_kinds[-1] != wanted:
        raise NoTurner("whole", maker)


def look_made(maker, row, its_table, row_kinds, rows_stood):
    """Refuses a maker's row that can't stand behind rows of these kinds, and marks its numbers as stood."""
    name, numbers = row
    if name not in its_table:
        raise NoTurner("maker", maker)
    kind, wanted = its_table[name]
    if len(numbers) != len(wanted):
        raise NoTurner("count", maker)
    for number in numbers:
        if number in rows_stood or not 0 <= number < len(row_kinds):
            raise NoTurner("number", maker)
        rows_stood[number] = True
    if [row_kinds[number] for number in numbers] != list(wanted):
        raise NoTurner("kind", maker)


def pattern_whole(pattern, of_part, of_maker):
    """What a pattern's last row comes to: of_part tells it of a part, of_maker of a maker and what it is made of."""
    told = []
    for name, its in pattern:
        if isinstance(its, tuple):
            told.append(of_maker(name, [told[number] for number in its]))
        else:
            told.append(of_part(its))
    return told[-1]


def turned_tree(first, second, turner, tree):
    """The plain tree of the second wood that the patterns tell."""
    kinds, patterns = turner
    pattern_of = {maker: pattern for maker, pattern in zip(makers_of(first), patterns)}
    rows = []
    numbers = {}
    told = []
    for maker, parts in tree:
        turned = [told[part] for part in parts]
        told.append(laid_rows(pattern_of[maker], turned, rows, numbers))
    return done_in_order(rows, told[-1])


def laid_rows(pattern, turned, rows, numbers):
    """The number of the row that a pattern comes to, its new rows laid behind rows; numbers has the number of each."""
    return pattern_whole(
        pattern,
        lambda part: turned[part],
        lambda maker, own: number_of_row(rows, numbers, (maker, tuple(own))),
    )
