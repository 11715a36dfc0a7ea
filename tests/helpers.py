"""What several tests use: asking for a refusal, seeded chance, and texts that differ in one sign."""

import itertools
import math
import random
import re
from fractions import Fraction

from boughkept.polys import Poly, exponents_to
from boughkept.readertexts import read_reader
from boughkept.trees import height_of, look_tree, plain_of, tree_kind

# every sign that texts are of: from the blank to ~ but the percent sign, and the line feed
SIGNS = "".join([chr(code) for code in range(32, 127) if code != 37]) + "\n"


def refusal(kind, ask, *told, **named):
    """The refusal of just this kind that comes of the asking."""
    try:
        answer = ask(*told, **named)
    except kind as refused:
        if type(refused) is not kind:
            raise AssertionError(f"{type(refused)} instead of {kind}") from refused
        return refused
    raise AssertionError(f"{answer!r} was told, where {kind.__name__} is due, of {str(told)[:300]}")


def chance(seed):
    return random.Random(seed)


def pair(number):
    """A Fraction as the program's tuple."""
    number = Fraction(number)
    return (number.numerator, number.denominator)


def one_sign_off(text, signs):
    """All texts that come of this one by a sign put in, left out, doubled or put for another."""
    told = set()
    for at in range(len(text) + 1):
        for sign in signs:
            told.add(text[:at] + sign + text[at:])
            told.add(text[:at] + sign + text[at + 1:])
        told.add(text[:at] + text[at + 1:])
        told.add(text[:at] + text[at:at + 1] + text[at:])
    return sorted(told)


# a wood with a kind and a maker of one name, a kind without makers, and a maker that can make nothing
WOOD = (
    ("num", (("zero", ()), ("one", ()), ("neg", ("num",)), ("add", ("num", "num")), ("sum", ("list",)))),
    ("list", (("nil", ()), ("list", ("num", "list")), ("rest", ("list",)))),
    ("void", ()),
    ("some", (("lift", ("void",)), ("part", ("list", "num")))),
)
CHAINS = (("nat", (("z", ()), ("s", ("nat",)))),)


def is_name_here(text):
    return re.fullmatch("[a-z]{1,6}", text) is not None and text != "kind"


def all_amiss(wood):
    """All that is amiss with a wood, as (word, name), in the order in which it is looked for."""
    told = []
    if len(wood) not in (1, 2, 3, 4):
        told.append(("kinds", ""))
    names = [name for name, makers in wood]
    for at, name in enumerate(names):
        told += [("name", name)] * (not is_name_here(name)) + [("kind", name)] * (name in names[:at])
    makers = [maker for name, own in wood for maker in own]
    for at, (name, parts) in enumerate(makers):
        told += [("name", name)] * (not is_name_here(name))
        told += [("maker", name)] * (name in [ahead for ahead, its in makers[:at]])
        told += [("parts", name)] * (len(parts) > 2)
        told += [("part", name)] * (not set(parts) <= set(names))
    if len(makers) > 12:
        told.append(("makers", ""))
    return told


def some_nested(source, wood, kind, most):
    """A tree of a kind's name as (maker, parts), parts trees, of at most a height; None where chance found none."""
    makers = [row for name, own in wood if name == kind for row in own]
    makers = [row for row in makers if most > 1 or not row[1]]
    for turn in range(8):
        if not makers:
            return None
        maker, parts = source.choice(makers)
        told = [some_nested(source, wood, part, most - 1) for part in parts]
        if None not in told:
            return (maker, tuple(told))
    return None


def nested_at(tree, at=-1):
    """The tree that a row tells, as (maker, parts)."""
    maker, parts = tree[at]
    return (maker, tuple([nested_at(tree, part) for part in parts]))


def plain_rows(nested):
    """The plain tree of a tree as (maker, parts)."""
    rows, places = [], {}

    def go(tree):
        if tree not in places:
            parts = tuple([go(part) for part in tree[1]])
            places[tree] = len(rows)
            rows.append((tree[0], parts))
        return places[tree]

    go(nested)
    return tuple(rows)


def some_rows(source, nested):
    """Rows that tell a tree: alike trees at times apart, at times in one row, rows of no use between, any order."""
    rows = []

    def go(tree):
        alike = [at for at in range(len(rows)) if nested_at(rows, at) == tree]
        if alike and source.randrange(2):
            return source.choice(alike)
        order = list(range(len(tree[1])))
        source.shuffle(order)
        told = {at: go(tree[1][at]) for at in order}
        if rows and source.randrange(4) == 0:
            rows.append(source.choice(rows))
        rows.append((tree[0], tuple([told[at] for at in range(len(tree[1]))])))
        return len(rows) - 1

    if go(nested) != len(rows) - 1:
        raise AssertionError("the whole isn't last")
    return tuple(rows)


def some_trees(seed, many, wood=WOOD, most=5):
    """Pairs of a tree as (maker, parts) and rows that tell it."""
    source = chance(seed)
    told = []
    while len(told) < many:
        nested = some_nested(source, wood, source.choice([name for name, own in wood]), source.randrange(1, most + 1))
        if nested is not None:
            told.append((nested, some_rows(source, nested)))
    return told


def height(nested):
    return 1 + max([height(part) for part in nested[1]], default=0)


def word(nested):
    """The names of a tree, written out."""
    return sum([word(part) for part in nested[1]], ()) + (nested[0],)


def text(nested):
    return nested[0] + ("(" + ",".join([text(part) for part in nested[1]]) + ")" if nested[1] else "")


def rows_of_size(size):
    """Few rows of a tree of just this size, with neg and add of WOOD."""
    deeds = []
    while size > 1:
        deeds.append("add" if size % 2 and size > 2 else "neg")
        size = (size - 1) // 2 if deeds[-1] == "add" else size - 1
    rows = [("zero", ())]
    for deed in reversed(deeds):
        last = len(rows) - 1
        rows.append((deed, (last, last) if deed == "add" else (last,)))
    return tuple(rows)


def maker_rows(wood):
    """For each maker, in order, (name, its kind's number, its parts' kinds' numbers)."""
    names = [name for name, makers in wood]
    return [
        (maker, at, tuple([names.index(part) for part in parts]))
        for at, (name, makers) in enumerate(wood) for maker, parts in makers
    ]


# a reader of WOOD: what is added up, how many there are and so on, also sums without terms, alike terms, a nought
READER_TEXT = """reader 2 1 0 3
zero 0 = none
zero 1 = 1
one 0 = 1
one 1 = 1
neg 0 = -1 0.0
neg 1 = 1 0.1 + 1
add 0 = 1 0.0 + 1 1.0
add 1 = 1 + 1 1.1 + 1 0.1
sum 0 = 1 0.0
sum 1 = 1/2
nil 0 = 0
list 0 = 1 1.0 + 1 0.0
rest 0 = -2/3 0.0
lift 0 = 5
lift 1 = none
lift 2 = none
part 0 = 1 0.0 1.0
part 1 = 1 0.0 + 1/2 1.1 + 1/2 1.1
part 2 = 3 1.0 + 0 0.0 1.1 + 7/2"""
READER = (
    (2, 1, 0, 3),
    (
        ((), (((1, 1), ()),)),
        ((((1, 1), ()),), (((1, 1), ()),)),
        ((((-1, 1), (0,)),), (((1, 1), (1,)), ((1, 1), (None,)))),
        (
            (((1, 1), (0, None)), ((1, 1), (None, 0))),
            (((1, 1), (None, None)), ((1, 1), (None, 1)), ((1, 1), (1, None))),
        ),
        ((((1, 1), (0,)),), (((1, 2), (None,)),)),
        ((((0, 1), ()),),),
        ((((1, 1), (None, 0)), ((1, 1), (0, None))),),
        ((((-2, 3), (0,)),),),
        ((((5, 1), (None,)),), (), ()),
        (
            (((1, 1), (0, 0)),),
            (((1, 1), (0, None)), ((1, 2), (None, 1)), ((1, 2), (None, 1))),
            (((3, 1), (None, 0)), ((0, 1), (0, 1)), ((7, 2), (None, None))),
        ),
    ),
)
# how many steps a chain has, and two to the power of that over three to it
CHAIN_READER = ((2,), (((), (((1, 1), ()),)), ((((1, 1), (0,)), ((1, 1), (None,))), (((2, 3), (1,)),))))


def chain_reader(*rows):
    """A reader of CHAINS by its rows for z, then for s."""
    boxes = len(rows) // 2
    named = [f"{'zs'[at // boxes]} {at % boxes} = {row}" for at, row in enumerate(rows)]
    return read_reader(CHAINS, "\n".join([f"reader {boxes}"] + named))


def some_number(source):
    """A fraction, a whole number more often than not, at times nought."""
    return pair(Fraction(source.randrange(-4, 5), source.choice((1, 1, 1, 2, 3))))


def some_reader(source, wood, counts, most=3, number=some_number):
    """A reader of so many boxes, its sums of at most so many terms."""
    rules = []
    for maker, kind, parts in maker_rows(wood):
        choices = [[None] + list(range(counts[part])) * 2 for part in parts]
        rules.append(tuple([
            tuple([
                (number(source), tuple([source.choice(boxes) for boxes in choices]))
                for term in range(source.randrange(most + 1))
            ])
            for box in range(counts[kind])
        ]))
    return (tuple(counts), tuple(rules))


def some_wood(source, kinds=None):
    """A wood of one to four kinds, with makers of no part in the first one at least."""
    many = kinds or source.randrange(1, 5)
    names = ["p", "q", "kinds", "num"][:many]
    letters = iter("abcdefghijkl")
    told = []
    for at, name in enumerate(names):
        makers = [(next(letters), ())] if at == 0 else []
        for turn in range(source.randrange(4 if many > 2 else 5)):
            letter = next(letters, None)
            if letter is not None:
                makers.append((letter, tuple([source.choice(names) for part in range(source.choice((0, 1, 1, 2, 2)))])))
        told.append((name, tuple(makers)))
    return tuple(told)


def read_rows(wood, reader, tree):
    """For each row of a tree the tuple of its boxes, as Fractions."""
    rules = dict(zip([maker for maker, kind, parts in maker_rows(wood)], reader[1]))
    told = []
    for maker, parts in tree:
        told.append(sums_there(rules[maker], [told[part] for part in parts]))
    return told


def read_whole(wood, reader, tree):
    """The whole's boxes as Fractions."""
    return read_rows(wood, reader, tree)[-1]


def great_tree(source, wood, kind=None, rows=60, most=2000):
    """A tree of a kind's number of at most so many rows that bears parts many times, each row of at most that size."""
    makers = maker_rows(wood)
    told, kinds, sizes = [], [], []
    for turn in range(rows * 6):
        maker, own, parts = source.choice(makers)
        if own in kinds and not parts and source.randrange(8):
            continue
        # the last ones more often than not, so that sizes grow
        able = [[at for at in range(len(told)) if kinds[at] == part][-2 if source.randrange(6) else 0:] for part in parts]
        chosen = tuple([source.choice(rows_there) for rows_there in able if rows_there])
        size = 1 + sum([sizes[at] for at in chosen])
        if len(chosen) == len(parts) and size <= most and len(told) < rows:
            told.append((maker, chosen))
            kinds.append(own)
            sizes.append(size)
    while told and kind is not None and kinds[len(told) - 1] != kind:
        told.pop()
    return tuple(told) or None


def some_poly(source, boxes, degree=4, most=6):
    """A Poly of so many boxes with at most so many terms."""
    rows = exponents_to(boxes, degree)
    return Poly(boxes, [(source.choice(rows), some_number(source)) for term in range(source.randrange(most + 1))])


def worth_at(poly, numbers):
    """What a Poly comes to, by Fractions."""
    return sum([
        math.prod([Fraction(number) ** exponent for number, exponent in zip(numbers, exponents)], start=Fraction(*own))
        for exponents, own in poly.terms()
    ], Fraction(0))


def products_to(boxes, degree):
    """The products of all choices of one to that many boxes, those of fewer first, by the boxes' numbers."""
    return [
        math.prod(chosen, start=Fraction(1))
        for many in range(1, degree + 1) for chosen in itertools.combinations_with_replacement(boxes, many)
    ]


def room_row(boxes, degree):
    """The row of a tree with these boxes: 1, then all products to the degree."""
    return [Fraction(1)] + products_to(boxes, degree)


def rank_of(rows):
    """How many of these rows, at most, are free."""
    kept = []
    for row in rows:
        row = list(row)
        for at, other in kept:
            if row[at]:
                factor = row[at] / other[at]
                row = [number - factor * its for number, its in zip(row, other)]
        place = next((at for at, number in enumerate(row) if number), None)
        if place is not None:
            kept.append((place, row))
    return len(kept)


def all_trees(wood, reader, cap=400):
    """(height, trees): for each kind all trees (height, (maker, parts), boxes) to that height, at most so many a kind."""
    rules = dict(zip([maker for maker, kind, parts in maker_rows(wood)], reader[1]))
    height, told = 0, [[] for kind in wood]
    while True:
        more = [[] for kind in wood]
        for maker, kind, parts in maker_rows(wood):
            many = math.prod([len(told[part]) for part in parts])
            if many > cap:
                return height, told
            for chosen in itertools.product(*[told[part] for part in parts]):
                if max([0] + [thing[0] for thing in chosen]) == height:
                    nested = (maker, tuple([thing[1] for thing in chosen]))
                    boxes = sums_there(rules[maker], [thing[2] for thing in chosen])
                    more[kind].append((height + 1, nested, boxes))
        if max([len(own) + len(its) for own, its in zip(told, more)]) > cap or height > 11:
            return height, told
        height, told = height + 1, [own + its for own, its in zip(told, more)]


def sums_there(sums, parts):
    """What a maker's sums come to where its parts have these boxes, by Fractions."""
    return tuple([
        sum([
            math.prod([part[box] for part, box in zip(parts, boxes) if box is not None], start=Fraction(*number))
            for number, boxes in terms
        ], Fraction(0))
        for terms in sums
    ])


def height_told(case, wood, kind, answer):
    """The height of the tree that is told, a plain one of the kind; None where both are alike."""
    if answer == ("alike",):
        return None
    word, tree = answer
    case.assertEqual((type(answer), word), (tuple, "tree"))
    case.assertIs(look_tree(wood, tree), True)
    case.assertEqual((plain_of(tree), tree_kind(wood, tree)), (tree, kind))
    return height_of(tree)


# makers of all kinds that a wood within twelve rooms may have; one kind has no makers, one makers but no trees
BARREN = (
    ("p", (("a", ()), ("g", ("p",)), ("f", ("p", "p")))),
    ("q", (("b", ("p",)), ("h", ("q", "p")))),
    ("void", ()),
    ("deep", (("d", ("deep",)), ("e", ("void", "p")))),
)


def some_within(source, degree, rooms=12):
    """A wood and a reader of it whose rooms to the degree are at most so many in all."""
    while True:
        wood = source.choice((CHAINS, BARREN, some_wood(source), some_wood(source, 1), some_wood(source, 2)))
        counts = [source.randrange(5) for kind in wood]
        if sum([math.comb(count + degree, degree) for count in counts]) <= rooms and sum(counts):
            return wood, some_reader(source, wood, counts, most=source.choice((1, 2, 3, 6)))
