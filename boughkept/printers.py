"""Printers: (letters, counts, rules), by which each tree has texts in boxes."""

from boughkept.errors import NoPrinter
from boughkept.woods import maker_table, makers_of

MOST_LETTERS = 9
MOST_TEXTS = 2
PERCENT_SIGN = 37


def look_printer(wood, printer):
    """True, or NoPrinter by the first thing that is amiss."""
    letters, counts, rules = printer
    table = maker_table(wood)
    if not are_letters(letters):
        raise NoPrinter("letters", "")
    if len(counts) != len(wood) or not all([0 <= count <= MOST_TEXTS for count in counts]):
        raise NoPrinter("counts", "")
    if len(rules) != len(table):
        raise NoPrinter("rules", "")
    for rows, (maker, (kind, parts)) in zip(rules, list(table.items())):
        if len(rows) != counts[kind]:
            raise NoPrinter("rows", maker)
        look_items(letters, maker, [item for row in rows for item in row], [counts[part] for part in parts])
    return True


def are_letters(letters):
    """Whether a text is one to nine unlike signs, none the blank."""
    if not 1 <= len(letters) <= MOST_LETTERS or len(set(letters)) != len(letters):
        return False
    return all(["!" <= sign <= "~" and ord(sign) != PERCENT_SIGN for sign in letters])


def look_items(letters, maker, items, part_counts):
    """Refuses the first item, of all rows of a maker, that can't stand."""
    stood = {}
    for item in items:
        if isinstance(item, str):
            if len(item) == 0 or not all([sign in letters for sign in item]):
                raise NoPrinter("letters", maker)
        else:
            part, box = item
            if not 0 <= part < len(part_counts):
                raise NoPrinter("part", maker)
            if not 0 <= box < part_counts[part]:
                raise NoPrinter("box", maker)
            if item in stood:
                raise NoPrinter("twice", maker)
            stood[item] = True


def printed_at(wood, printer, tree):
    """The texts in the whole's boxes."""
    letters, counts, rules = printer
    rows_of = {maker: rows for maker, rows in zip(makers_of(wood), rules)}
    told = []
    for maker, parts in tree:
        own = [told[part] for part in parts]
        told.append(tuple([joined(items, own) for items in rows_of[maker]]))
    return told[-1]


def joined(items, parts):
    """The text of a row's items, the parts' texts being told."""
    return "".join([item if isinstance(item, str) else parts[item[0]][item[1]] for item in items])
