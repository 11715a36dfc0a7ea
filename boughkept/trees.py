"""Trees: tuples of rows (maker, parts), parts numbers of rows ahead; the last row is the whole."""

from boughkept.errors import NoTree
from boughkept.woods import kind_of, maker_table


def look_tree(wood, tree):
    """True, or NoTree at the first row that can't stand."""
    if len(tree) == 0:
        raise NoTree(0)
    table = maker_table(wood)
    kinds = []
    for at, (maker, parts) in enumerate(tree):
        if maker not in table:
            raise NoTree(at)
        kind, wanted = table[maker]
        if not are_rows_of(kinds, parts, wanted):
            raise NoTree(at)
        kinds.append(kind)
    return True


def are_rows_of(kinds, parts, wanted):
    """Whether parts are numbers of rows ahead, whose kinds are given, one for each kind that is wanted."""
    if len(parts) != len(wanted):
        return False
    return all([0 <= part < len(kinds) and kinds[part] == kind for part, kind in zip(parts, wanted)])


def tree_kind(wood, tree):
    """The number of the tree's kind."""
    return kind_of(wood, tree[-1][0])


def height_of(tree):
    heights = []
    for maker, parts in tree:
        heights.append(1 + max([heights[part] for part in parts], default=0))
    return heights[-1]


def size_of(tree):
    """How many names the tree has, written out."""
    sizes = []
    for maker, parts in tree:
        sizes.append(1 + sum([sizes[part] for part in parts]))
    return sizes[-1]


def plain_of(tree):
    """The plain tree that is the same."""
    rows = []
    numbers = {}
    told = []
    for maker, parts in tree:
        told.append(number_of_row(rows, numbers, (maker, tuple([told[part] for part in parts]))))
    return done_in_order(rows, told[-1])


def number_of_row(rows, numbers, row):
    """The number of a row in rows, laid behind them where it is new; numbers has the number of each."""
    if row not in numbers:
        numbers[row] = len(rows)
        rows.append(row)
    return numbers[row]


def done_in_order(rows, whole):
    """The tree of those rows that the whole has, as one is done with them, parts from the left."""
    places = {}
    done = []
    way = [whole]
    while len(way) > 0:
        maker, parts = rows[way[-1]]
        waiting = [part for part in parts if part not in places]
        if len(waiting) > 0:
            way.append(waiting[0])
        else:
            places[way.pop()] = len(done)
            done.append((maker, tuple([places[part] for part in parts])))
    return tuple(done)


def is_same(one, other):
    """Whether both are made by one maker of the same parts."""
    return plain_of(one) == plain_of(other)


def part_trees(tree):
    """The plain trees of the whole's parts, from the left."""
    return [plain_of(tree[:part + 1]) for part in tree[-1][1]]


def made_of(maker, trees):
    """The plain tree that a maker makes of these."""
    rows = []
    parts = []
    for tree in trees:
        shift = len(rows)
        rows.extend([(name, tuple([part + shift for part in own])) for name, own in tree])
        parts.append(len(rows) - 1)
    rows.append((maker, tuple(parts)))
    return plain_of(rows)
