"""[11] [12] Readers: looked at, and what a tree has in its boxes by them."""

import math
import unittest
from fractions import Fraction

from boughkept.errors import NoReader
from boughkept.readers import all_boxes_at, boxes_at, look_reader
from boughkept.readertexts import read_reader
from boughkept.trees import size_of
from helpers import (
    CHAIN_READER, CHAINS, READER, WOOD, chance, great_tree, maker_rows, pair, read_rows, refusal, rows_of_size,
    some_reader, some_trees, some_wood,
)

ZERO, ONE, NIL = ("zero", ()), ("one", ()), ("nil", ())
# one kind with a maker of no part, of one and of two; boxes of a kind that has none of its own
SMALL = (("p", (("a", ()), ("g", ("p",)), ("f", ("p", "q")))), ("q", (("b", ("p", "p")),)))
BARE = (("p", ()), ("q", ()))
HALF = (1, 2)


def small_reader(a=((((1, 1), ()),),), g=((((1, 1), (0,)),),), f=((((1, 1), (0, None)),),), b=((),)):
    return ((1, 1), (a, g, f, b))


def all_amiss_with(wood, reader):
    """All that is amiss with a reader, as (word, maker), in the order in which it is looked for."""
    counts, rules = reader
    makers = maker_rows(wood)
    if len(counts) != len(wood) or set(counts) - {0, 1, 2, 3, 4}:
        return [("counts", "")]
    if len(rules) != len(makers):
        return [("rules", "")]
    told = []
    for (maker, kind, parts), sums in zip(makers, rules):
        told += [("sums", maker)] * (len(sums) != counts[kind])
        for (upper, lower), boxes in [term for terms in sums for term in terms]:
            told += [("number", maker)] * (lower <= 0 or math.gcd(upper, lower) != 1)
            told += [("parts", maker)] * (len(boxes) != len(parts))
            for box, part in zip(boxes, parts):
                told += [("box", maker)] * (box not in [None, *range(counts[part])])
    return told


class TestLooked(unittest.TestCase):
    def refused(self, wood, reader, word, maker):
        told = refusal(NoReader, look_reader, wood, reader)
        self.assertEqual((told.word, told.maker), (word, maker), reader)

    def check(self, wood, reader):
        told = all_amiss_with(wood, reader)
        if told:
            self.refused(wood, reader, *told[0])
        else:
            self.assertIs(look_reader(wood, reader), True)

    def test_let_by(self):
        self.assertIs(look_reader(WOOD, READER), True)
        self.assertIs(look_reader(reader=CHAIN_READER, wood=CHAINS), True)
        self.assertIs(look_reader(SMALL, small_reader()), True)
        for counts in ((0, 0), (4, 4), (0, 4), (4, 0), (1, 3)):
            rules = tuple([((),) * counts[kind] for maker, kind, parts in maker_rows(SMALL)])
            self.assertIs(look_reader(SMALL, (counts, rules)), True)

    def test_counts(self):
        rules = small_reader()[1]
        for counts in ((), (1,), (1, 1, 1), (5, 1), (1, 5), (-1, 1), (1, -1), (1, 10 ** 30), (-10 ** 30, 1), (1, 1, 0)):
            self.refused(SMALL, (counts, rules), "counts", "")
        for count in (5, 6, -1):
            self.refused(SMALL, ((count, 0), tuple([((),) * max(count, 0)] * 3 + [()])), "counts", "")

    def test_counts_ahead_of_rules(self):
        self.refused(SMALL, ((1,), ()), "counts", "")
        self.refused(SMALL, ((1, 5), ()), "counts", "")
        self.refused(BARE, ((1, 5), ((),)), "counts", "")

    def test_rules(self):
        counts, rules = small_reader()
        for other in ((), rules[:3], rules + rules[:1], rules + ((),), rules[:1]):
            self.refused(SMALL, (counts, other), "rules", "")
        # rules ahead of what is amiss in them
        self.refused(SMALL, (counts, ((),) + rules[2:]), "rules", "")

    def test_a_wood_without_makers(self):
        for counts in ((0, 0), (4, 1)):
            self.assertIs(look_reader(BARE, (counts, ())), True)
            self.refused(BARE, (counts, ((),)), "rules", "")
        self.refused(BARE, ((0,), ()), "counts", "")
        self.refused(BARE, ((0, 5), ()), "counts", "")

    def test_sums(self):
        term = ((1, 1), (None,))
        for sums in ((), ((term,), (term,)), ((), (), ())):
            self.refused(SMALL, ((1, 1), (((),), sums, ((),), ((),))), "sums", "g")
        self.refused(SMALL, ((0, 1), ((), (), ((),), ((),))), "sums", "f")
        self.refused(SMALL, ((0, 0), ((), (), (), ((),))), "sums", "b")
        self.assertIs(look_reader(SMALL, ((0, 0), ((), (), (), ()))), True)

    def test_numbers(self):
        for number in (
            (2, 2), (0, 2), (0, 0), (1, 0), (-1, 0), (1, -1), (-1, -1), (0, -1), (4, 6), (-4, 6), (3, 3), (10, 5),
            (7 ** 40, 7), (7, 7 ** 40), (3, -2), (0, 10 ** 30),
        ):
            self.refused(SMALL, small_reader(g=(((number, (0,)),),)), "number", "g")
            self.refused(SMALL, small_reader(g=((((1, 1), (0,)), (number, (0,))),)), "number", "g")
        for number in ((0, 1), (1, 1), (-1, 1), (3000, 1), (-3000, 7), (1, 200), (-7, 6), (10 ** 30, 3), (1, 7 ** 40)):
            self.assertIs(look_reader(SMALL, small_reader(g=(((number, (0,)),),))), True)

    def test_parts(self):
        one = (1, 1)
        for boxes in ((), (0, 0), (None, None), (0, None), (0, 0, 0)):
            self.refused(SMALL, small_reader(g=(((one, boxes),),)), "parts", "g")
        for boxes in ((), (0,), (None,), (0, 0, 0), (None,) * 3):
            self.refused(SMALL, small_reader(f=(((one, boxes),),)), "parts", "f")
        for boxes in ((0,), (None,), (0, 0)):
            self.refused(SMALL, small_reader(a=(((one, boxes),),)), "parts", "a")

    def test_boxes(self):
        one = (1, 1)
        for box in (-1, 1, 2, 4, -10 ** 30, 10 ** 30):
            self.refused(SMALL, small_reader(g=(((one, (box,)),),)), "box", "g")
            self.refused(SMALL, small_reader(f=(((one, (box, 0)),),)), "box", "f")
            self.refused(SMALL, small_reader(f=(((one, (0, box)),),)), "box", "f")
            self.refused(SMALL, small_reader(f=(((one, (None, box)),),)), "box", "f")
        for boxes in ((None, None), (0, None), (None, 0), (0, 0)):
            self.assertIs(look_reader(SMALL, small_reader(f=(((one, boxes),),))), True)

    def test_each_part_has_its_kinds_boxes(self):
        def with_boxes(boxes):
            rules = (((), ()), ((), ()), ((), (((1, 1), boxes),)), ((), (), ()))
            return ((2, 3), rules)

        for boxes in ((1, 2), (None, 2), (1, None), (0, 0)):
            self.assertIs(look_reader(SMALL, with_boxes(boxes)), True)
        for boxes in ((2, 2), (2, None), (1, 3), (None, 3)):
            self.refused(SMALL, with_boxes(boxes), "box", "f")

    def test_a_kind_without_boxes(self):
        def with_boxes(boxes):
            return ((1, 0), (((),), ((),), ((((1, 1), boxes),),), ()))

        self.assertIs(look_reader(SMALL, with_boxes((0, None))), True)
        for boxes in ((0, 0), (None, 0), (0, 1), (0, -1)):
            self.refused(SMALL, with_boxes(boxes), "box", "f")

    def test_the_first_of_several(self):
        one = (1, 1)
        # number, parts, box of one term; then term by term, sum by sum, maker by maker
        self.refused(SMALL, small_reader(g=((((2, 2), (7, 7)),),)), "number", "g")
        self.refused(SMALL, small_reader(g=(((one, (7, 7)),),)), "parts", "g")
        self.refused(SMALL, small_reader(g=(((one, (7,)), ((2, 2), ())),)), "box", "g")
        self.refused(SMALL, small_reader(g=(((one, ()), ((2, 2), ())),)), "parts", "g")
        self.refused(SMALL, ((1, 1), (((),), (((one, (7,)),), ()), ((),), ((),))), "sums", "g")
        self.refused(SMALL, ((2, 0), (((), ()), (((one, (7,)),), (((0, 0), ()),)), ((), ()), ())), "box", "g")
        self.refused(SMALL, ((1, 1), (((),), (((one, (7,)),),), (), ())), "box", "g")
        self.refused(SMALL, ((1, 1), (((),), ((),), (), (((one, (7,)),),))), "sums", "f")
        self.refused(SMALL, ((1, 1), ((((HALF, (0,)),),), ((((2, 4), ()),),), (), ())), "parts", "a")

    def test_some_of_each(self):
        source = chance(101)
        seen = set()
        for turn in range(1500):
            wood = some_wood(source)
            counts = [source.randrange(4) for kind in wood]
            counts, rules = some_reader(source, wood, counts)
            self.check(wood, (counts, rules))
            rules = [[[list(term) for term in terms] for terms in sums] for sums in rules]
            for change in range(source.randrange(1, 4)):
                counts, rules = self.changed(source, counts, rules)
            reader = (counts, tuple([tuple([tuple([tuple(term) for term in own]) for own in sums]) for sums in rules]))
            seen.update([word for word, maker in all_amiss_with(wood, reader)[:1]])
            self.check(wood, reader)
        self.assertEqual(seen, {"counts", "rules", "sums", "number", "parts", "box"})

    def changed(self, source, counts, rules):
        """A reader with one thing put for another; what it was is changed."""
        deed = source.randrange(20)
        if deed == 0:
            counts = counts + (source.randrange(3),) if source.randrange(2) else counts[1:]
        elif deed == 1:
            at = source.randrange(len(counts)) if counts else 0
            counts = counts[:at] + (source.choice((-1, 0, 2, 4, 5)),) + counts[at + 1:]
        elif deed == 2 and rules:
            rules.pop() if source.randrange(2) else rules.append([])
        elif rules:
            sums = source.choice(rules)
            if deed < 6:
                sums.pop() if sums and source.randrange(2) else sums.append([])
            elif sums and source.choice(sums):
                term = source.choice(source.choice([terms for terms in sums if terms]))
                if deed < 11:
                    term[0] = (source.randrange(-6, 7), source.randrange(-1, 7))
                elif deed < 15:
                    term[1] = term[1][1:] if source.randrange(2) else term[1] + (None,)
                elif term[1]:
                    term[1] = (source.choice((None, -1, 0, 1, 2, 3, 4)),) + term[1][1:]
        return counts, rules


class TestRead(unittest.TestCase):
    def read(self, tree, *numbers):
        told = boxes_at(WOOD, READER, tree)
        self.assertEqual(told, tuple([pair(number) for number in numbers]))
        self.assertEqual(all_boxes_at(WOOD, READER, tree)[-1], told)

    def test_written_out(self):
        self.read((ZERO,), 0, 1)
        self.read((ONE,), 1, 1)
        self.read((NIL,), 0)
        self.read((ONE, ("neg", (0,))), -1, 2)
        self.read((ONE, ("add", (0, 0))), 2, 3)
        self.read((ONE, ZERO, ("add", (1, 0)), ("add", (2, 0))), 2, 5)
        self.read((ONE, NIL, ("list", (0, 1))), 1)
        self.read((ONE, NIL, ("list", (0, 1)), ("list", (0, 2)), ("rest", (3,))), Fraction(-4, 3))
        self.read((ONE, NIL, ("list", (0, 1)), ("rest", (2,)), ("sum", (3,))), Fraction(-2, 3), Fraction(1, 2))
        self.read((ONE, NIL, ("list", (0, 1)), ("rest", (2,)), ("neg", (0,)), ("part", (3, 4))),
                  Fraction(2, 3), Fraction(4, 3), Fraction(1, 2))
        self.assertEqual(boxes_at(tree=(ONE,), wood=WOOD, reader=READER), ((1, 1), (1, 1)))

    def test_all_rows(self):
        tree = (ONE, NIL, ZERO, ("list", (0, 1)), ("add", (0, 0)), ("sum", (3,)))
        expected = [
            ((1, 1), (1, 1)), ((0, 1),), ((0, 1), (1, 1)), ((1, 1),), ((2, 1), (3, 1)), ((1, 1), (1, 2)),
        ]
        told = all_boxes_at(WOOD, READER, tree)
        self.assertEqual(told, expected)
        self.assertIs(type(told), list)
        self.assertEqual({type(boxes) for boxes in told}, {tuple})
        self.assertEqual({type(number) for boxes in told for number in boxes}, {tuple})
        self.assertEqual(all_boxes_at(tree=tree, reader=READER, wood=WOOD), expected)

    def test_kinds_without_boxes(self):
        reader = read_reader(WOOD, "reader 0 1 0 0\nnil 0 = 5\nlist 0 = 2 1.0\nrest 0 = none")
        self.assertEqual(boxes_at(WOOD, reader, (ZERO, ("add", (0, 0)))), ())
        self.assertEqual(all_boxes_at(WOOD, reader, (ZERO, NIL, ("list", (0, 1)), ("rest", (2,)))),
                         [(), ((5, 1),), ((10, 1),), ((0, 1),)])

    def test_which_part_is_which(self):
        wood = (("p", (("a", ()), ("b", ()), ("f", ("p", "p")))),)
        rows = ("a 0 = 2", "a 1 = 3", "b 0 = 5", "b 1 = 7", "f 0 = 1 0.0 1.1", "f 1 = 1 1.0 + 10 0.1")
        reader = read_reader(wood, "\n".join(("reader 2",) + rows))
        self.assertEqual(boxes_at(wood, reader, (("a", ()), ("b", ()), ("f", (0, 1)))), ((14, 1), (35, 1)))
        self.assertEqual(boxes_at(wood, reader, (("a", ()), ("b", ()), ("f", (1, 0)))), ((15, 1), (72, 1)))
        self.assertEqual(boxes_at(wood, reader, (("a", ()), ("f", (0, 0)))), ((6, 1), (32, 1)))

    def test_lowest_terms(self):
        # a half of a part, twice a part: what is put in the boxes is ever in lowest terms
        wood = (("p", (("a", ()), ("h", ("p",)), ("d", ("p",)))),)
        reader = read_reader(wood, "reader 1\na 0 = 1\nh 0 = 1/2 0.0\nd 0 = 2 0.0")
        halves = (("a", ()),) + tuple([("h", (at,)) for at in range(20)])
        there_and_back = halves + tuple([("d", (at,)) for at in range(20, 45)])
        told = all_boxes_at(wood, reader, there_and_back)
        self.assertEqual(told[20], ((1, 2 ** 20),))
        self.assertEqual(told[40], ((1, 1),))
        self.assertEqual(told[45], ((32, 1),))

    def test_some_of_each(self):
        source = chance(102)
        for nested, rows in some_trees(103, 150):
            reader = some_reader(source, WOOD, [source.randrange(5) for kind in WOOD], most=6)
            expected = [tuple([pair(number) for number in boxes]) for boxes in read_rows(WOOD, reader, rows)]
            self.assertEqual(all_boxes_at(WOOD, reader, rows), expected)
            self.assertEqual(boxes_at(WOOD, reader, rows), expected[-1])

    def test_great_ones(self):
        source = chance(104)
        sizes = []
        for turn in range(40):
            tree = great_tree(source, WOOD)
            sizes.append(max([size_of(tree[:at + 1]) for at in range(len(tree))]))
            reader = some_reader(source, WOOD, [2, 2, 1, 2], most=2)
            expected = [tuple([pair(number) for number in boxes]) for boxes in read_rows(WOOD, reader, tree)]
            self.assertEqual(all_boxes_at(WOOD, reader, tree), expected)
            self.assertEqual(boxes_at(WOOD, reader, tree), expected[-1])
        self.assertGreater(max(sizes), 500)

    def test_sixty_rows_of_a_size_of_two_thousand(self):
        wood = (("p", (("a", ()), ("g", ("p",)), ("f", ("p", "p")))),)
        number = lambda source: pair(Fraction(source.randrange(-3000, 3001), source.randrange(1, 9)))
        tree = [("a", ())] + [("f", (at, at)) for at in range(9)]
        tree += [("f", (at % 6, at)) if at % 2 else ("g", (at,)) for at in range(9, 59)]
        self.assertEqual((len(tree), 1500 < size_of(tree) <= 2000), (60, True), size_of(tree))
        source = chance(105)
        for counts in ((1,), (2,)):
            reader = some_reader(source, wood, counts, most=3, number=number)
            expected = [tuple([pair(number) for number in boxes]) for boxes in read_rows(wood, reader, tree)]
            self.assertEqual(all_boxes_at(wood, reader, tuple(tree)), expected)
        # (x + y) / 2 of one part twice stays what it was, however great the tree
        half = read_reader(wood, "reader 1\na 0 = 3/7\ng 0 = 1 0.0\nf 0 = 1/2 0.0 + 1/2 1.0")
        doubled = (("a", ()),) + tuple([("f", (at, at)) for at in range(59)])
        self.assertEqual(all_boxes_at(wood, half, doubled), [((3, 7),)] * 60)
        many = read_reader(wood, "reader 1\na 0 = 1\ng 0 = 1 + 1 0.0\nf 0 = 1 + 1 0.0 + 1 1.0")
        for size in (1, 2, 3, 100, 1999, 2000):
            rows = tuple([({"zero": "a", "neg": "g", "add": "f"}[maker], parts) for maker, parts in rows_of_size(size)])
            self.assertEqual(boxes_at(wood, many, rows), ((size, 1),))
        self.assertEqual(boxes_at(wood, many, doubled), ((2 ** 60 - 1, 1),))


class TestKept(unittest.TestCase):
    def test_what_was_told(self):
        tree = (ONE, ("neg", (0,)))
        told = all_boxes_at(WOOD, READER, tree)
        told[0] = None
        told.append("more")
        self.assertEqual(all_boxes_at(WOOD, READER, tree), [((1, 1), (1, 1)), ((-1, 1), (2, 1))])

    def test_told_again(self):
        trees = [rows for nested, rows in some_trees(106, 20)]
        first = [all_boxes_at(WOOD, READER, tree) for tree in trees]
        refusal(NoReader, look_reader, WOOD, ((), ()))
        boxes_at(CHAINS, CHAIN_READER, (("z", ()), ("s", (0,))))
        self.assertEqual([all_boxes_at(WOOD, READER, tree) for tree in reversed(trees)], first[::-1])


if __name__ == "__main__":
    unittest.main()
