"""What several tests use: asking for a refusal, seeded chance, and texts that differ in one sign."""

import random
import re
from fractions import Fraction

# every sign that texts are of: from the blank to ~ but the percent sign, and the line feed
SIGNS = "".join([chr(code) for code in range(32, 127) if code != 37]) + "\n"


def refusal(kind, ask, *told, **named):
    """The refusal of just this kind that comes of the asking."""
    try:
        answer = ask(*told, **named)
    except kind as refused:
        if type(refused) is not kind:
            raise AssertionError(f"{type(refused)} instead of {kind}") from refused
        return refused
    raise AssertionError(f"{answer!r} was told, where {kind.__name__} is due, of {str(told)[:300]}")


def chance(seed):
    return random.Random(seed)


def pair(number):
    """A Fraction as the program's tuple."""
    number = Fraction(number)
    return (number.numerator, number.denominator)


def one_sign_off(text, signs):
    """All texts that come of this one by a sign put in, left out, doubled or put for another."""
    told = set()
    for at in range(len(text) + 1):
        for sign in signs:
            told.add(text[:at] + sign + text[at:])
            told.add(text[:at] + sign + text[at + 1:])
        told.add(text[:at] + text[at + 1:])
        told.add(text[:at] + text[at:at + 1] + text[at:])
    return sorted(told)


# a wood with a kind and a maker of one name, a kind without makers, and a maker that can make nothing
WOOD = (
    ("num", (("zero", ()), ("one", ()), ("neg", ("num",)), ("add", ("num", "num")), ("sum", ("list",)))),
    ("list", (("nil", ()), ("list", ("num", "list")), ("rest", ("list",)))),
    ("void", ()),
    ("some", (("lift", ("void",)), ("part", ("list", "num")))),
)
CHAINS = (("nat", (("z", ()), ("s", ("nat",)))),)


def is_name_here(text):
    return re.fullmatch("[a-z]{1,6}", text) is not None and text != "kind"


def all_amiss(wood):
    """All that is amiss with a wood, as (word, name), in the order in which it is looked for."""
    told = []
    if len(wood) not in (1, 2, 3, 4):
        told.append(("kinds", ""))
    names = [name for name, makers in wood]
    for at, name in enumerate(names):
        told += [("name", name)] * (not is_name_here(name)) + [("kind", name)] * (name in names[:at])
    makers = [maker for name, own in wood for maker in own]
    for at, (name, parts) in enumerate(makers):
        told += [("name", name)] * (not is_name_here(name))
        told += [("maker", name)] * (name in [ahead for ahead, its in makers[:at]])
        told += [("parts", name)] * (len(parts) > 2)
        told += [("part", name)] * (not set(parts) <= set(names))
    if len(makers) > 12:
        told.append(("makers", ""))
    return told


def some_nested(source, wood, kind, most):
    """A tree of a kind's name as (maker, parts), parts trees, of at most a height; None where chance found none."""
    makers = [row for name, own in wood if name == kind for row in own]
    makers = [row for row in makers if most > 1 or not row[1]]
    for turn in range(8):
        if not makers:
            return None
        maker, parts = source.choice(makers)
        told = [some_nested(source, wood, part, most - 1) for part in parts]
        if None not in told:
            return (maker, tuple(told))
    return None


def nested_at(tree, at=-1):
    """The tree that a row tells, as (maker, parts)."""
    maker, parts = tree[at]
    return (maker, tuple([nested_at(tree, part) for part in parts]))


def plain_rows(nested):
    """The plain tree of a tree as (maker, parts)."""
    rows, places = [], {}

    def go(tree):
        if tree not in places:
            parts = tuple([go(part) for part in tree[1]])
            places[tree] = len(rows)
            rows.append((tree[0], parts))
        return places[tree]

    go(nested)
    return tuple(rows)


def some_rows(source, nested):
    """Rows that tell a tree: alike trees at times apart, at times in one row, rows of no use between, any order."""
    rows = []

    def go(tree):
        alike = [at for at in range(len(rows)) if nested_at(rows, at) == tree]
        if alike and source.randrange(2):
            return source.choice(alike)
        order = list(range(len(tree[1])))
        source.shuffle(order)
        told = {at: go(tree[1][at]) for at in order}
        if rows and source.randrange(4) == 0:
            rows.append(source.choice(rows))
        rows.append((tree[0], tuple([told[at] for at in range(len(tree[1]))])))
        return len(rows) - 1

    if go(nested) != len(rows) - 1:
        raise AssertionError("the whole isn't last")
    return tuple(rows)


def some_trees(seed, many, wood=WOOD, most=5):
    """Pairs of a tree as (maker, parts) and rows that tell it."""
    source = chance(seed)
    told = []
    while len(told) < many:
        nested = some_nested(source, wood, source.choice([name for name, own in wood]), source.randrange(1, most + 1))
        if nested is not None:
            told.append((nested, some_rows(source, nested)))
    return told


def height(nested):
    return 1 + max([height(part) for part in nested[1]], default=0)


def word(nested):
    """The names of a tree, written out."""
    return sum([word(part) for part in nested[1]], ()) + (nested[0],)


def text(nested):
    return nested[0] + ("(" + ",".join([text(part) for part in nested[1]]) + ")" if nested[1] else "")


def rows_of_size(size):
    """Few rows of a tree of just this size, with neg and add of WOOD."""
    deeds = []
    while size > 1:
        deeds.append("add" if size % 2 and size > 2 else "neg")
        size = (size - 1) // 2 if deeds[-1] == "add" else size - 1
    rows = [("zero", ())]
    for deed in reversed(deeds):
        last = len(rows) - 1
        rows.append((deed, (last, last) if deed == "add" else (last,)))
    return tuple(rows)
