"""Readers' texts."""

from boughkept.errors import NoText
from boughkept.fractions import is_short, read_fraction, show_fraction
from boughkept.readers import look_reader
from boughkept.woods import maker_table


def show_reader(wood, reader):
    """The row of the counts, then one for each maker and box."""
    counts, rules = reader
    rows = [" ".join(["reader"] + [str(count) for count in counts])]
    for maker, sums in zip(list(maker_table(wood)), rules):
        for box, terms in enumerate(sums):
            rows.append(row_start(maker, box) + show_sum(terms))
    return "\n".join(rows)


def row_start(maker, box):
    return f"{maker} {box} = "


def show_sum(terms):
    if len(terms) == 0:
        return "none"
    return " + ".join([show_term(number, boxes) for number, boxes in terms])


def show_term(number, boxes):
    """The fraction, then for each part with a box the part and the box."""
    words = [show_fraction(number)]
    for part, box in enumerate(boxes):
        if box is not None:
            words.append(f"{part}.{box}")
    return " ".join(words)


def read_reader(wood, text):
    """The reader whose text this is, looked at."""
    rows = text.split("\n")
    counts = read_counts(rows[0], len(wood))
    rules = []
    at = 1
    for maker, (kind, parts) in maker_table(wood).items():
        sums = []
        for box in range(counts[kind]):
            sums.append(read_row(rows, at, row_start(maker, box), len(parts)))
            at += 1
        rules.append(tuple(sums))
    if at < len(rows):
        raise NoText(at)
    reader = (counts, tuple(rules))
    look_reader(wood, reader)
    return reader


def read_counts(row, kinds):
    """The counts of the first row, one for each of so many kinds."""
    words = row.split(" ")
    if words[0] != "reader" or len(words) != 1 + kinds or not all([is_short(word) for word in words[1:]]):
        raise NoText(0)
    return tuple([int(word) for word in words[1:]])


def read_row(rows, at, start, parts):
    """The sum in the row of that number, which has to begin so."""
    if at >= len(rows) or not rows[at].startswith(start):
        raise NoText(at)
    try:
        return read_sum(rows[at][len(start):], parts)
    except NoText:
        raise NoText(at) from None


def read_sum(text, parts):
    if text == "none":
        return ()
    return tuple([read_term(piece, parts) for piece in text.split(" + ")])


def read_term(text, parts):
    """A term (number, boxes) of a maker with so many parts."""
    words = text.split(" ")
    number = read_fraction(words[0])
    boxes = [None] * parts
    # the first part that may still be named, since they rise
    free = 0
    for word in words[1:]:
        part_text, dot, box_text = word.partition(".")
        if not is_short(part_text) or not is_short(box_text) or not free <= int(part_text) < parts:
            raise NoText(0)
        boxes[int(part_text)] = int(box_text)
        free = int(part_text) + 1
    return (number, tuple(boxes))
