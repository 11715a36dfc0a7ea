"""Some fractions as one row of whole numbers: a common lower number from 1 on, then each one's upper number over it.

So many sums and products are reckoned without a common divisor sought at each. In lowest terms such a row is just one.
"""

from boughkept.fractions import common_divisor, fraction_of
from boughkept.woods import maker_table


def lowest_row(numbers):
    """The numbers, not all of them nought, over their greatest common divisor."""
    common = 0
    for number in numbers:
        common = common_divisor(abs(number), common)
        if common == 1:
            return tuple(numbers)
    return tuple([number // common for number in numbers])


def common_lower(lowers):
    """The least number from 1 on that each of these divides."""
    least = 1
    for lower in lowers:
        least = least // common_divisor(least, lower) * lower
    return least


def row_of_pairs(pairs):
    """The row, in lowest terms, of pairs (upper, lower), lower from 1 on, perhaps with common divisors."""
    least = common_lower([lower for upper, lower in pairs])
    return lowest_row([least] + [upper * (least // lower) for upper, lower in pairs])


def fractions_in(row):
    """The fractions that a row stands for."""
    return tuple([fraction_of(upper, row[0]) for upper in row[1:]])


def whole_rules(wood, reader):
    """For each maker's name its sums, as row_made goes by them."""
    counts, rules = reader
    table = maker_table(wood)
    return {maker: whole_sums(sums, len(table[maker][1])) for maker, sums in zip(list(table), rules)}


def whole_sums(sums, parts):
    """The sums of all numbers of a whole's row: terms (whole number, for each of so many parts a place in its row)."""
    least = common_lower([number[1] for terms in sums for number, boxes in terms])
    uppers = [[whole_term(least, number, boxes) for number, boxes in terms] for terms in sums]
    return [[(least, (0,) * parts)]] + uppers


def whole_term(least, number, boxes):
    # a part without a box counts by its lower number, which stands ahead of its boxes
    return (number[0] * (least // number[1]), tuple([0 if box is None else box + 1 for box in boxes]))


def row_made(sums, parts):
    """The row, perhaps with common divisors, that a maker's whole sums make of its parts' rows."""
    return [total_of(terms, parts) for terms in sums]


def total_of(terms, parts):
    total = 0
    for number, places in terms:
        product = number
        for part, place in zip(parts, places):
            product = product * part[place]
        total = total + product
    return total
