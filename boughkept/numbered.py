"""Printers numbered: texts as numbers, so that readers tell whether two printers print the same.

Behind a text another one comes to its worth times the other's width and the other's worth. So the worths and widths of
a whole's texts, and their products, are sums of products of its parts'.
"""

from boughkept.alike import told_alike
from boughkept.polys import Poly, unit_row
from boughkept.raised import raised_sum
from boughkept.woods import maker_table

# what a choice has for a text box that it takes; a worth's is 1, as unit_row has it
WORTH = 1
WIDTH = 2


def text_worth(letters, text):
    """The number that the letters' numbers write, 0 of the text without signs."""
    numbers = [0] + [letters.index(sign) + 1 for sign in text]
    base = len(letters) + 1
    # neighbours are put together, so that few of the numbers are great
    while len(numbers) > 1:
        if len(numbers) % 2 == 1:
            numbers.insert(0, 0)
        numbers = [upper * base + lower for upper, lower in zip(numbers[::2], numbers[1::2])]
        base = base * base
    return numbers[0]


def text_width(letters, text):
    """The base to the power of how many signs there are."""
    width = 1
    many = len(text)
    for place in range(many.bit_length() - 1, -1, -1):
        width = width * width
        if (many >> place) % 2 == 1:
            width = width * (len(letters) + 1)
    return width


def numbered_reader(wood, printer, letters=None):
    """The reader that has a box for each product of worths and widths of a kind's texts, by letters or its own."""
    own_letters, counts, rules = printer
    signs = own_letters if letters is None else letters
    boxes = [choice_boxes(count) for count in counts]
    numbered_rules = []
    for rows, (kind, parts) in zip(rules, list(maker_table(wood).values())):
        part_counts = [counts[part] for part in parts]
        part_boxes = [boxes[part] for part in parts]
        told = [row_polys(signs, items, part_counts) for items in rows]
        wholes = [chosen_product(told, choice, sum(part_counts)) for choice in list(boxes[kind])[1:]]
        numbered_rules.append(tuple([raised_sum(whole, part_counts, part_boxes) for whole in wholes]))
    return (tuple([len(own) - 1 for own in boxes]), tuple(numbered_rules))


def choice_boxes(count):
    """For all choices of so many text boxes, rising, the numbered box, None for the one ahead that takes none."""
    choices = [()]
    for box in range(count):
        choices = [ahead + (mark,) for ahead in choices for mark in (0, WORTH, WIDTH)]
    return {choice: None if at == 0 else at - 1 for at, choice in enumerate(choices)}


def row_polys(letters, items, part_counts):
    """A row's worth and width as Polys in the text boxes of all parts.

    An exponent tells which of a box's numbers is meant; as no box stands twice, none is added to another.
    """
    worth = Poly(sum(part_counts))
    width = constant(1, part_counts)
    for item in items:
        its_worth, its_width = item_polys(letters, item, part_counts)
        worth = worth.by(its_width).plus(its_worth)
        width = width.by(its_width)
    return (worth, width)


def item_polys(letters, item, part_counts):
    """An item's worth and width as Polys in the text boxes of all parts."""
    if isinstance(item, str):
        return (constant(text_worth(letters, item), part_counts), constant(text_width(letters, item), part_counts))
    part, box = item
    marked = unit_row(sum(part_counts), sum(part_counts[:part]) + box)
    return tuple([Poly(len(marked), [(tuple([mark * at for at in marked]), (1, 1))]) for mark in (WORTH, WIDTH)])


def constant(number, part_counts):
    """A whole number as a Poly in the text boxes of all parts."""
    boxes = sum(part_counts)
    return Poly(boxes, [((0,) * boxes, (number, 1))])


def chosen_product(told, choice, boxes):
    """The product, in so many boxes, of the worths and widths that a choice takes."""
    product = Poly(boxes, [((0,) * boxes, (1, 1))])
    for (worth, width), mark in zip(told, choice):
        if mark != 0:
            product = product.by(worth if mark == WORTH else width)
    return product


def print_alike(wood, one, other, kind, box=0, its=0):
    """("alike",) where a text box of each prints the same for every tree of the kind, else ("tree", a lowest other)."""
    letters = one[0] + "".join([sign for sign in other[0] if sign not in one[0]])
    first = numbered_reader(wood, one, letters)
    second = numbered_reader(wood, other, letters)
    return told_alike(wood, first, second, kind, worth_box(one[1][kind], box), worth_box(other[1][kind], its))


def worth_box(count, box):
    """The numbered box, of a kind of so many text boxes, that is one's worth."""
    return choice_boxes(count)[unit_row(count, box)]
