"""What tests of turners use: turners by chance, and turning told by another way."""

from helpers import BARREN, CHAINS, WOOD, maker_rows, some_wood


def some_pattern(source, second, kind, free, most):
    """A pattern of a kind's number as a tree: ("part", p), or (maker, trees); free has the kinds of parts left."""
    alike = [part for part, own in free.items() if own == kind]
    if alike and source.randrange(4):
        part = source.choice(alike)
        del free[part]
        return ("part", part)
    makers = [row for row in maker_rows(second) if row[1] == kind and (most > 1 or not row[2])]
    if not makers:
        return None
    maker, own, parts = source.choice(makers)
    told = [some_pattern(source, second, part, free, most - 1) for part in parts]
    return None if None in told else (maker, tuple(told))


def pattern_rows(source, tree):
    """The rows of a pattern's tree, in some order in which parts stand ahead."""
    rows = []

    def go(told):
        if type(told[1]) is int:
            rows.append(told)
        else:
            order = list(range(len(told[1])))
            if source is not None:
                source.shuffle(order)
            numbers = {at: go(told[1][at]) for at in order}
            rows.append((told[0], tuple([numbers[at] for at in range(len(order))])))
        return len(rows) - 1

    go(tree)
    return tuple(rows)


def pattern_tree(rows, at=-1):
    """The tree of a pattern's rows."""
    name, told = rows[at]
    return (name, told) if type(told) is int else (name, tuple([pattern_tree(rows, number) for number in told]))


def some_turner(source, first, second, most=8):
    """A turner whose patterns have at most so many rows; None where chance found none."""
    for turn in range(40):
        kinds = tuple([source.randrange(len(second)) for kind in first])
        patterns = [some_rows_of(source, second, kinds, row, most) for row in maker_rows(first)]
        if None not in patterns:
            return (kinds, tuple(patterns))
    return None


def some_rows_of(source, second, kinds, row, most):
    maker, kind, parts = row
    for turn in range(30):
        tree = some_pattern(source, second, kinds[kind], dict(enumerate([kinds[part] for part in parts])), 4)
        if tree is not None and len(pattern_rows(source, tree)) <= most:
            return pattern_rows(source, tree)
    return None


def turners_between(source, turns, firsts, seconds):
    """(turn, first, second, turner), by chance, between these woods and others."""
    for turn in range(turns):
        first = source.choice((*firsts, CHAINS, WOOD, BARREN, some_wood(source)))
        second = source.choice((*seconds, CHAINS, WOOD, some_wood(source)))
        turner = some_turner(source, first, second)
        if turner is not None:
            yield turn, first, second, turner


def turned(first, turner, nested):
    """The turned tree of one, both as (maker, parts)."""
    patterns = dict(zip([maker for maker, kind, parts in maker_rows(first)], turner[1]))

    def put(tree, parts):
        return parts[tree[1]] if type(tree[1]) is int else (tree[0], tuple([put(own, parts) for own in tree[1]]))

    def go(tree):
        return put(pattern_tree(patterns[tree[0]]), [go(part) for part in tree[1]])

    return go(nested)
