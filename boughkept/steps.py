"""Trees told height by height, each with a row that is no sum of those told ahead, and the sayings that they leave.

A whole's row is a sum of products of its parts' rows. So the rows of all trees of a height are sums of those that are
made of told trees below it, and where none is told of a height, none is of a greater one.
"""

from boughkept.polys import exponents_to, unit_row
from boughkept.trees import made_of
from boughkept.wholes import lowest_row, row_made, whole_rules
from boughkept.woods import maker_table


class Patch:
    """What is known of a kind: the trees told so far, and the sayings that hold at these."""

    def __init__(self, boxes, degree):
        self.boxes = boxes
        self.rooms = exponents_to(boxes, degree)
        # a row's lower number brings all its rooms to one degree, so that they are whole numbers
        self.powers = [(degree - sum(exponents),) + exponents for exponents in self.rooms]
        # things (height, tree, its boxes as a row of whole numbers), the lower ones first
        self.told = []
        # for each saying a whole number for each room: their last ones rise and stand in no other saying
        self.left = [unit_row(len(self.rooms), at) for at in range(len(self.rooms))]

    def narrow(self, row):
        """Leaves the sayings that hold at a tree with this row, too; False where all do."""
        products = [power_product(row, exponents) for exponents in self.powers]
        worths = [sum([number * product for number, product in zip(saying, products)]) for saying in self.left]
        if not any([worth != 0 for worth in worths]):
            return False
        self.left = narrowed(self.left, worths)
        return True


def power_product(numbers, exponents):
    product = 1
    for number, exponent in zip(numbers, exponents):
        for turn in range(exponent):
            product = product * number
    return product


def narrowed(sayings, worths):
    """The sayings, stepped as these are, that hold where these have such worths, not all of them nought."""
    first = 0
    while worths[first] == 0:
        first += 1
    # the first that is broken is taken out of those behind it, whose last numbers it doesn't reach
    left = sayings[:first]
    for saying, worth in list(zip(sayings, worths))[first + 1:]:
        left.append(cleared(saying, worth, sayings[first], worths[first]))
    return left


def cleared(saying, worth, other, its_worth):
    """What comes of two sayings so that it is nought where they have these worths, its last number positive."""
    if its_worth < 0:
        worth = -worth
        its_worth = -its_worth
    return lowest_row([its_worth * number - worth * its for number, its in zip(saying, other)])


def grown_patches(wood, reader, degree):
    """For each kind its Patch, with all trees that there are to tell."""
    counts, rules = reader
    patches = [Patch(count, degree) for count in counts]
    sums = whole_rules(wood, reader)
    table = maker_table(wood)
    height = 1
    while grow_layer(patches, table, sums, height):
        height += 1
    return patches


def grow_layer(patches, table, sums, height):
    """Tells the trees of a height, those below it being told; whether there are any."""
    lower = [list(known.told) for known in patches]
    grown = False
    for maker, (kind, parts) in table.items():
        patch = patches[kind]
        for things in choices(lower, parts, height):
            # where no saying is left none is to be told, and its numbers, perhaps great, needn't be reckoned
            if len(patch.left) > 0 and grow_tree(patch, maker, sums[maker], height, things):
                grown = True
    return grown


def choices(lower, parts, height):
    """All choices of a thing for each part, the highest just below the height."""
    chosen = [()]
    for part in parts:
        chosen = [ahead + (thing,) for ahead in chosen for thing in lower[part]]
    return [things for things in chosen if max([own for own, tree, row in things], default=0) == height - 1]


def grow_tree(patch, maker, sums, height, things):
    """Tells the tree that a maker makes of these, if a saying that is left is broken by it; whether it is."""
    made = row_made(sums, [row for own, tree, row in things])
    if not patch.narrow(made):
        return False
    patch.told.append((height, made_of(maker, [tree for own, tree, row in things]), lowest_row(made)))
    return True
