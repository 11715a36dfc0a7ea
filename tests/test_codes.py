"""[14] Readers' codes: deed by deed, and what they leave on the bench."""

import unittest
from fractions import Fraction

from boughkept.codes import code_of
from boughkept.readertexts import read_reader
from helpers import CHAIN_READER, CHAINS, READER, WOOD, chance, maker_rows, some_reader, some_wood, sums_there

TIMES, PLUS = ("times",), ("plus",)


def put(upper, lower=1):
    return ("put", (upper, lower))


def take(part, box):
    return ("take", part, box)


def bench_of(deeds, parts):
    """What the deeds leave on an empty bench, parts' boxes being told."""
    bench = []
    for word, *rest in deeds:
        if word == "put":
            bench.append(Fraction(*rest[0]))
        elif word == "take":
            bench.append(parts[rest[0]][rest[1]])
        else:
            other, one = bench.pop(), bench.pop()
            bench.append({"times": one * other, "plus": one + other}[word])
    return bench


class TestCodes(unittest.TestCase):
    def test_deed_by_deed(self):
        self.assertEqual(code_of(CHAINS, CHAIN_READER), (
            (put(0), put(1)),
            (put(1), take(0, 0), TIMES, put(1), PLUS, put(2, 3), take(0, 1), TIMES),
        ))
        self.assertEqual(code_of(reader=READER, wood=WOOD), (
            (put(0), put(1)),
            (put(1), put(1)),
            (put(-1), take(0, 0), TIMES, put(1), take(0, 1), TIMES, put(1), PLUS),
            (put(1), take(0, 0), TIMES, put(1), take(1, 0), TIMES, PLUS,
             put(1), put(1), take(1, 1), TIMES, PLUS, put(1), take(0, 1), TIMES, PLUS),
            (put(1), take(0, 0), TIMES, put(1, 2)),
            (put(0),),
            (put(1), take(1, 0), TIMES, put(1), take(0, 0), TIMES, PLUS),
            (put(-2, 3), take(0, 0), TIMES),
            (put(5), put(0), put(0)),
            (put(1), take(0, 0), TIMES, take(1, 0), TIMES,
             put(1), take(0, 0), TIMES, put(1, 2), take(1, 1), TIMES, PLUS, put(1, 2), take(1, 1), TIMES, PLUS,
             put(3), take(1, 0), TIMES, put(0), take(0, 0), TIMES, take(1, 1), TIMES, PLUS, put(7, 2), PLUS),
        ))

    def test_terms_one_by_one(self):
        wood = (("p", (("f", ("p", "p")),)),)
        for text, deeds in (
            ("none", (put(0),)),
            ("0", (put(0),)),
            ("-3/2", (put(-3, 2),)),
            ("2 1.0", (put(2), take(1, 0), TIMES)),
            ("2 0.0 1.0", (put(2), take(0, 0), TIMES, take(1, 0), TIMES)),
            ("1 + 1", (put(1), put(1), PLUS)),
            ("1 + 1 + 1", (put(1), put(1), PLUS, put(1), PLUS)),
            ("4 + 0 0.0", (put(4), put(0), take(0, 0), TIMES, PLUS)),
        ):
            self.assertEqual(code_of(wood, read_reader(wood, "reader 1\nf 0 = " + text)), (deeds,))

    def test_without_boxes_and_without_makers(self):
        self.assertEqual(code_of(CHAINS, ((0,), ((), ()))), ((), ()))
        self.assertEqual(code_of((("p", ()),), ((3,), ())), ())

    def test_what_lies_on_the_bench(self):
        source = chance(121)
        for turn in range(200):
            wood = some_wood(source)
            counts = [source.randrange(5) for kind in wood]
            reader = some_reader(source, wood, counts, most=6)
            code = code_of(wood, reader)
            self.assertEqual(len(code), len(reader[1]))
            for (maker, kind, parts), deeds, sums in zip(maker_rows(wood), code, reader[1]):
                boxes = [
                    [Fraction(source.randrange(-9, 10), source.randrange(1, 5)) for box in range(counts[part])]
                    for part in parts
                ]
                self.assertEqual(tuple(bench_of(deeds, boxes)), sums_there(sums, boxes))

    def test_tuples_all_through(self):
        code = code_of(WOOD, READER)
        self.assertEqual({type(thing) for thing in (code, *code, *[deed for deeds in code for deed in deeds])}, {tuple})

    def test_told_again(self):
        first = code_of(WOOD, READER)
        code_of(CHAINS, CHAIN_READER)
        self.assertEqual(code_of(WOOD, READER), first)


if __name__ == "__main__":
    unittest.main()
