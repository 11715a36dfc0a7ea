"""[3] [22] Papers looked at maker by maker: True or False of any paper of the told form."""

import itertools
import math
import unittest
from fractions import Fraction

from boughkept.papermaker import paper_for
from boughkept.papers import paper_holds
from boughkept.polys import Poly
from boughkept.polytexts import read_poly
from boughkept.readertexts import read_reader
from helpers import (
    BARREN, CHAINS, all_trees, chance, great_tree, maker_rows, read_whole, some_poly, some_reader, some_within, worth_at,
)

# how many steps, and the square of that
SQUARES = read_reader(CHAINS, "reader 2\nz 0 = none\nz 1 = none\ns 0 = 1 + 1 0.0\ns 1 = 1 + 2 0.0 + 1 0.1")
SQUARE = read_poly("-1 x1 + 1 x0^2", 2)
# leaves, forks: a leaf more than forks; twins of the first box in the second kind, which has no boxes of its own
FORKS = (("tree", (("leaf", ()), ("fork", ("tree", "tree")), ("mark", ("tree", "note")))), ("note", (("nil", ()),)))
FORK_READER = read_reader(FORKS, "\n".join([
    "reader 2 0", "leaf 0 = 1", "leaf 1 = none", "fork 0 = 1 0.0 + 1 1.0", "fork 1 = 1 + 1 0.1 + 1 1.1", "mark 0 = 1 0.0",
    "mark 1 = 1 0.1",
]))
MORE = read_poly("1 + -1 x0 + 1 x1", 2)
NO_BOXES = ((1, 0, 0, (0, 0)), (1, 1, 0, (0, 0)))
FORK_PAPER = (((MORE,), ()), (((1, ()),), ((1, NO_BOXES),), ((1, ((1, 0, 0, ()),)),), ()))


def by_hand(wood, reader, paper):
    """Whether a paper holds, by dicts of exponents and Fractions, each thing looked for on its own."""
    (counts, rules), (sayings, shown) = reader, paper
    makers = maker_rows(wood)
    if len(sayings) != len(counts) or len(shown) != len(makers):
        return False
    if [len(rows) for rows in shown] != [len(sayings[kind]) for maker, kind, parts in makers]:
        return False
    for (maker, kind, parts), sums, rows in zip(makers, rules, shown):
        own = [counts[part] for part in parts]
        for saying, (times, entries) in zip(sayings[kind], rows):
            if times <= 0:
                return False
            total = {}
            for number, part, at, other in entries:
                if part not in range(len(parts)) or at not in range(len(sayings[parts[part]])):
                    return False
                beside = own[:part] + own[part + 1:]
                if (other is None) != (beside == []):
                    return False
                if beside and (len(other) != beside[0] or [low for low in other if low < 0]):
                    return False
                for exponents, factor in sayings[parts[part]][at].terms():
                    both = [exponents, other or ()]
                    key = sum(both if part == 0 else both[::-1], ())
                    total[key] = total.get(key, 0) + number * Fraction(*factor)
            for exponents, number in put_in(saying, sums, own).items():
                total[exponents] = total.get(exponents, 0) - times * number
            if set(total.values()) - {0}:
                return False
    return True


def put_in(poly, sums, own):
    """A Poly put back through sums over parts of so many boxes, by dicts."""
    total = {}
    for exponents, number in poly.terms():
        chosen = [sums[box] for box, exponent in enumerate(exponents) for turn in range(exponent)]
        for terms in itertools.product(*chosen):
            key = [0] * sum(own)
            for factor, boxes in terms:
                for part, box in enumerate(boxes):
                    if box is not None:
                        key[sum(own[:part]) + box] += 1
            worth = math.prod([Fraction(*factor) for factor, boxes in terms], start=Fraction(*number))
            total[tuple(key)] = total.get(tuple(key), 0) + worth
    return total


def numbered(rows, at, thing):
    """Rows with another thing at a place."""
    return rows[:at] + (thing,) + rows[at + 1:]


class TestPaperHolds(unittest.TestCase):
    def holds(self, wood, reader, paper):
        told = paper_holds(wood, reader, paper)
        self.assertIs(told, by_hand(wood, reader, paper), paper)
        return told

    def chain_paper(self, first=(1, ()), second=(1, ((1, 0, 0, None),)), sayings=(SQUARE,)):
        return self.holds(CHAINS, SQUARES, ((sayings,), ((first,), (second,))))

    def fork_paper(self, leaf=(1, ()), fork=(1, NO_BOXES), mark=(1, ((1, 0, 0, ()),))):
        return self.holds(FORKS, FORK_READER, (((MORE,), ()), ((leaf,), (fork,), (mark,), ())))

    def test_papers_that_hold(self):
        self.assertIs(self.chain_paper(), True)
        self.assertIs(self.fork_paper(), True)
        self.assertIs(paper_holds(paper=FORK_PAPER, reader=FORK_READER, wood=FORKS), True)

    def test_no_sayings(self):
        self.assertIs(self.holds(CHAINS, SQUARES, (((),), ((), ()))), True)
        self.assertIs(self.holds(FORKS, FORK_READER, (((), ()), ((), (), (), ()))), True)
        self.assertIs(self.holds((("p", ()),), ((3,), ()), (((),), ())), True)
        # of a kind without makers each Poly is let by
        self.assertIs(self.holds((("p", ()),), ((1,), ()), (((Poly(1, [((0,), (1, 1))]), Poly(1)),), ())), True)

    def test_sayings_not_one_tuple_for_each_kind(self):
        for sayings in ((), ((SQUARE,), ()), ((SQUARE,), (SQUARE,)), ((), (SQUARE,))):
            self.assertIs(self.holds(CHAINS, SQUARES, (sayings, (((1, ()),), ((1, ((1, 0, 0, None),)),)))), False)
        for sayings in ((), ((),), ((), (), ()), ((MORE,),), ((MORE,), (), ())):
            self.assertIs(self.holds(FORKS, FORK_READER, (sayings, FORK_PAPER[1])), False)
        self.assertIs(paper_holds(CHAINS, SQUARES, ((), ((), ()))), False)
        self.assertIs(paper_holds(CHAINS, SQUARES, (((), ()), ((), ()))), False)

    def test_sayings_in_other_boxes(self):
        for boxes in (0, 1, 3):
            self.assertIs(paper_holds(CHAINS, SQUARES, (((Poly(boxes),),), (((1, ()),), ((1, ()),)))), False)
        self.assertIs(paper_holds(CHAINS, SQUARES, (((Poly(2),),), (((1, ()),), ((1, ()),)))), True)

    def test_shown_not_one_for_each_maker(self):
        for shown in ((), FORK_PAPER[1][:3], FORK_PAPER[1][1:], FORK_PAPER[1] + ((),), FORK_PAPER[1][:3] + (((1, ()),),)):
            self.assertIs(self.holds(FORKS, FORK_READER, (FORK_PAPER[0], shown)), False)
        for shown in ((), ((),), ((), (), ())):
            self.assertIs(self.holds(CHAINS, SQUARES, (((),), shown)), False)

    def test_shown_not_one_for_each_saying(self):
        leaf, fork, mark, nil = FORK_PAPER[1]
        for shown in (
            ((), fork, mark, nil), (leaf, (), mark, nil), (leaf, fork, (), nil), (leaf, fork, mark, ((1, ()),)),
            (leaf + leaf, fork, mark, nil), (leaf, fork + fork, mark, nil), (leaf, fork, mark + mark, nil), ((),) * 4,
        ):
            self.assertIs(self.holds(FORKS, FORK_READER, (FORK_PAPER[0], shown)), False)

    def test_m_is_from_1_on(self):
        for times in (0, -1, -10 ** 30):
            self.assertIs(self.chain_paper(first=(times, ())), False)
            self.assertIs(self.chain_paper(second=(times, ((times, 0, 0, None),))), False)
            self.assertIs(self.chain_paper(second=(times, ())), False)
            self.assertIs(self.fork_paper(leaf=(times, ())), False)
        for times in (1, 2, 7, 10 ** 30):
            self.assertIs(self.chain_paper(first=(times, ())), True)
            self.assertIs(self.chain_paper(second=(times, ((times, 0, 0, None),))), True)
            self.assertIs(self.chain_paper(second=(times, ((times + 1, 0, 0, None),))), False)
            self.assertIs(self.chain_paper(second=(times, ((-times, 0, 0, None),))), False)
            # of the Poly 0, too, m has to be from 1 on
            for m in (times, 0, -times):
                paper = ((Poly(2),),), (((m, ()),), ((m, ()),))
                self.assertIs(self.holds(CHAINS, SQUARES, paper), m > 0)

    def test_entries_of_makers_without_parts(self):
        for entry in ((1, 0, 0, None), (0, 0, 0, None), (0, 0, 0, ()), (0, 1, 0, (0, 0)), (0, -1, 0, None)):
            self.assertIs(self.chain_paper(first=(1, (entry,))), False)
            self.assertIs(self.fork_paper(leaf=(1, (entry,))), False)

    def test_parts_that_are_not_there(self):
        for part in (1, 2, -1, -2, 10 ** 30):
            for number in (1, 0):
                entry = (number, part, 0, None)
                self.assertIs(self.chain_paper(second=(1, ((1, 0, 0, None), entry))), False)
            self.assertIs(self.chain_paper(second=(1, ((1, part, 0, None),))), False)
        for part in (2, 3, -1, -2):
            self.assertIs(self.fork_paper(fork=(1, NO_BOXES + ((0, part, 0, (0, 0)),))), False)
            self.assertIs(self.fork_paper(fork=(1, (NO_BOXES[0], (1, part, 0, (0, 0))))), False)

    def test_sayings_that_are_not_there(self):
        for at in (1, 2, -1, -2, 10 ** 30, -10 ** 30):
            self.assertIs(self.chain_paper(second=(1, ((1, 0, at, None),))), False)
            self.assertIs(self.chain_paper(second=(1, ((1, 0, 0, None), (0, 0, at, None)))), False)
            self.assertIs(self.fork_paper(fork=(1, (NO_BOXES[0], (1, 1, at, (0, 0))))), False)
        # the other part's kind has no sayings at all
        self.assertIs(self.fork_paper(mark=(1, ((1, 0, 0, ()), (0, 1, 0, (0, 0))))), False)

    def test_other(self):
        # none where there is another part, one where there is none
        self.assertIs(self.fork_paper(fork=(1, ((1, 0, 0, None), NO_BOXES[1]))), False)
        self.assertIs(self.fork_paper(fork=(1, (NO_BOXES[0], (1, 1, 0, None)))), False)
        self.assertIs(self.fork_paper(mark=(1, ((1, 0, 0, None),))), False)
        for other in ((), (0,), (0, 0), (0, 0, 0)):
            self.assertIs(self.chain_paper(second=(1, ((1, 0, 0, other),))), False)
        # too long, too short, () where the other part's kind has no boxes and elsewhere
        for other in ((), (0,), (0, 0, 0), (0, 0, 0, 0)):
            self.assertIs(self.fork_paper(fork=(1, ((1, 0, 0, other), NO_BOXES[1]))), False)
            self.assertIs(self.fork_paper(fork=(1, NO_BOXES + ((0, 1, 0, other),))), False)
        for other in ((0,), (0, 0)):
            self.assertIs(self.fork_paper(mark=(1, ((1, 0, 0, other),))), False)
        # numbers below 0, also in entries that come to nothing
        for other in ((-1, 0), (0, -1), (1, -1), (-1, -1)):
            self.assertIs(self.fork_paper(fork=(1, NO_BOXES + ((0, 1, 0, other),))), False)
            self.assertIs(self.fork_paper(fork=(1, NO_BOXES + ((1, 1, 0, other), (-1, 1, 0, other)))), False)
        for other in ((0, 6), (6, 0), (3, 3)):
            self.assertIs(self.fork_paper(fork=(1, NO_BOXES + ((5, 1, 0, other),))), False)
            self.assertIs(self.fork_paper(fork=(1, NO_BOXES + ((5, 1, 0, other), (-5, 1, 0, other)))), True)

    def test_which_part_other_is_of(self):
        # a product of the first part's one box and the second's two
        wood = (("p", (("a", ()), ("f", ("p", "q")), ("g", ("q", "p")))), ("q", (("b", ()),)))
        reader = read_reader(wood, "\n".join([
            "reader 1 2", "a 0 = none", "f 0 = 1 0.0 1.1", "g 0 = 1 0.0 1.0", "b 0 = 3", "b 1 = 5",
        ]))
        saying = read_poly("1 x0", 1)

        def told(first, second):
            return self.holds(wood, reader, (((saying,), ()), (((1, ()),), ((1, first),), ((1, second),), ())))

        self.assertIs(told(((1, 0, 0, (0, 1)),), ((1, 1, 0, (1, 0)),)), True)
        self.assertIs(told(((1, 0, 0, (1, 0)),), ((1, 1, 0, (1, 0)),)), False)
        self.assertIs(told(((1, 0, 0, (0, 1)),), ((1, 1, 0, (0, 1)),)), False)
        self.assertIs(told(((1, 0, 0, (0, 1)),), ((1, 0, 0, (1, 0)),)), False)
        self.assertIs(told(((1, 1, 0, (0, 1)),), ((1, 1, 0, (1, 0)),)), False)

    def test_entries_otherwise_written(self):
        self.assertIs(self.fork_paper(fork=(1, NO_BOXES[::-1])), True)
        for parted in ((3, -2), (1, 0), (10 ** 30, 1 - 10 ** 30), (1, 10 ** 29, -10 ** 29)):
            entries = tuple([(number, 0, 0, (0, 0)) for number in parted])
            self.assertIs(self.fork_paper(fork=(1, entries + NO_BOXES[1:])), True)
            self.assertIs(self.fork_paper(fork=(1, entries[:1] + NO_BOXES[1:] + entries[1:])), True)
            self.assertIs(self.fork_paper(fork=(2, (entries + NO_BOXES[1:]) * 2)), True)
            self.assertIs(self.fork_paper(fork=(2, entries + NO_BOXES[1:])), False)
        twice = ((7, 1, 0, (1, 2)), (-7, 1, 0, (1, 2)))
        self.assertIs(self.fork_paper(fork=(1, twice[:1] + NO_BOXES + twice[1:])), True)
        self.assertIs(self.fork_paper(fork=(1, twice[:1] + NO_BOXES)), False)

    def test_sayings_otherwise_written(self):
        # times a fraction, twice, as a sum; any row of sayings that shows itself
        for number in ((-1, 1), (2, 3), (10 ** 29 + 7, 10 ** 30 - 1)):
            self.assertIs(self.chain_paper(sayings=(SQUARE.scaled(number),)), True)
        for first, second in (((1, 1), (2, 1)), ((2, 3), (1, 1))):
            sayings = ((SQUARE.scaled(first), SQUARE.scaled(second)),)
            lower = Fraction(*second) / Fraction(*first)
            shown = (((1, ()),) * 2, (
                (lower.numerator, ((lower.denominator, 0, 1, None),)),
                (lower.denominator, ((lower.numerator, 0, 0, None),)),
            ))
            self.assertIs(self.holds(CHAINS, SQUARES, (sayings, shown)), True)
            wrong = (shown[0], ((lower.numerator + 1, ((lower.denominator, 0, 1, None),)), shown[1][1]))
            self.assertIs(self.holds(CHAINS, SQUARES, (sayings, wrong)), False)

    def test_no_saying_is_let_by(self):
        # nought at the chain without steps, but not at others; nought at others, but not at this one
        self.assertIs(self.chain_paper(sayings=(read_poly("1 x0", 2),)), False)
        self.assertIs(self.chain_paper(sayings=(read_poly("1", 2),)), False)
        self.assertIs(self.chain_paper(sayings=(read_poly("1 x1", 2),)), False)
        # a step makes of it itself
        self.assertIs(self.chain_paper(sayings=(SQUARE.plus(read_poly("1", 2)),)), False)

    def test_one_number_otherwise(self):
        source = chance(221)
        seen = {True: 0, False: 0}
        for turn in range(160):
            degree = 1 + turn % 3
            wood, reader = some_within(source, degree)
            sayings, shown = paper_for(wood, reader, degree)
            self.assertIs(self.holds(wood, reader, (sayings, shown)), True)
            places = [(maker, at) for maker, rows in enumerate(shown) for at in range(len(rows))]
            for go in range(6 if places else 0):
                maker, at = source.choice(places)
                times, entries = shown[maker][at]
                row = self.otherwise(source, times, entries)
                told = (sayings, numbered(shown, maker, numbered(shown[maker], at, row)))
                seen[self.holds(wood, reader, told)] += 1
        self.assertGreater(min(seen.values()), 50)

    def otherwise(self, source, times, entries):
        """What is shown of a saying, with something else in it."""
        deed = source.randrange(7)
        if deed == 0 or not entries:
            return (times + source.choice((-1, 1)), entries)
        if deed == 1:
            factor = source.choice((2, 3, 10 ** 29))
            return (times * factor, tuple([(number * factor, *entry) for number, *entry in entries]))
        if deed == 2:
            return (times, tuple(source.sample(entries, len(entries))))
        at = source.randrange(len(entries))
        number, part, saying, other = entries[at]
        if deed == 3:
            return (times, entries[:at] + ((number - 5, part, saying, other), (5, part, saying, other)) + entries[at + 1:])
        if deed == 4:
            return (times, entries[:at] + entries[at + 1:])
        more = source.choice((
            (number + 1, part, saying, other), (number, 1 - part, saying, other), (number, part, saying + 1, other),
            (number, part, saying - 1, other), (-number, part, saying, other), (number, part, saying, (other or ()) + (0,)),
            (number, part, saying, None if other else ()), (number, part, saying, tuple([1 + low for low in other or ()])),
        ))
        return (times, numbered(entries, at, more))

    def test_some_papers_of_other_sayings(self):
        # Polys that no one has shown to be sayings, with entries by chance, hold where by hand they do
        source = chance(222)
        for turn in range(200):
            wood, reader = some_within(source, 1 + turn % 2)
            sayings = tuple([
                tuple([some_poly(source, count, 2, 3) for poly in range(source.randrange(3))]) for count in reader[0]
            ])
            shown = []
            for maker, kind, parts in maker_rows(wood):
                rows = []
                for saying in sayings[kind]:
                    entries = []
                    for part, own in enumerate(parts):
                        many = reader[0][parts[1 - part]] if len(parts) > 1 else None
                        other = None if many is None else tuple([source.randrange(2) for box in range(many)])
                        if sayings[own]:
                            entries.append((source.randrange(-2, 3), part, source.randrange(len(sayings[own])), other))
                    rows.append((source.randrange(1, 4), tuple(entries)))
                shown.append(tuple(rows))
            self.holds(wood, reader, (sayings, tuple(shown)))

    def test_what_holds_is_nought_at_every_tree(self):
        source = chance(223)
        for turn in range(60):
            degree = 1 + turn % 4
            wood, reader = some_within(source, degree)
            sayings, shown = paper_for(wood, reader, degree)
            # a saying with what is not one, shown as if it were
            kind = source.randrange(len(wood))
            if not sayings[kind]:
                continue
            at = source.randrange(len(sayings[kind]))
            poly = sayings[kind][at].plus(some_poly(source, reader[0][kind], degree, most=2))
            paper = (numbered(sayings, kind, numbered(sayings[kind], at, poly)), shown)
            if self.holds(wood, reader, paper):
                self.assert_nought(source, wood, reader, paper[0])

    def assert_nought(self, source, wood, reader, sayings):
        for kind, own in enumerate(all_trees(wood, reader, 150)[1]):
            for height, nested, boxes in own:
                self.assertEqual({worth_at(poly, boxes) for poly in sayings[kind]} - {0}, set())
            for go in range(2):
                tree = great_tree(source, wood, kind, rows=20, most=200)
                if tree is not None:
                    boxes = read_whole(wood, reader, tree)
                    self.assertEqual({worth_at(poly, boxes) for poly in sayings[kind]} - {0}, set())

    def test_the_bounds(self):
        # four boxes, sums of six terms, Polys of sixteen terms to the degree 4, a part twice
        source = chance(224)
        wood = (("p", (("a", ()), ("f", ("p", "p")))),)

        def number(source):
            lower = source.randrange(1, 201)
            return (lower * source.randrange(-15, 15) + 1, lower)

        reader = some_reader(source, wood, (4,), 6, number)
        great = (10 ** 30 - 1, 10 ** 29 + 1)
        rows = ((4, 0, 0, 0), (1, 1, 1, 1), (0, 0, 1, 3))
        poly = some_poly(source, 4, 4, 13).plus(Poly(4, [(exponents, great) for exponents in rows]))
        entries = ((10 ** 30, 0, 0, (6, 0, 0, 0)), (-10 ** 30, 1, 0, (1, 2, 2, 1)))
        self.assertIs(self.holds(wood, reader, (((poly,),), (((10 ** 30, ()),), ((10 ** 30, entries),)))), False)

    def test_nothing_is_changed_and_the_same_is_told(self):
        wrong = (FORK_PAPER[0], FORK_PAPER[1][:3])
        ahead = repr((FORK_READER, FORK_PAPER, FORKS))
        for turn in range(2):
            self.assertIs(paper_holds(FORKS, FORK_READER, FORK_PAPER), True)
            self.assertIs(paper_holds(FORKS, FORK_READER, wrong), False)
            paper_holds(CHAINS, SQUARES, (((),), ((), ())))
        self.assertEqual(repr((FORK_READER, FORK_PAPER, FORKS)), ahead)

    def test_kinds_without_trees(self):
        # 1 is a saying of a kind without trees: shown through a part of such a kind
        reader = read_reader(BARREN, "reader 0 0 0 1\nd 0 = 2 0.0 + 5\ne 0 = 1/3")
        one, box = Poly(1, [((0,), (1, 1))]), Poly(1, [((1,), (1, 1))])
        none = Poly(0, [((), (1, 1))])
        sayings = ((), (), (none,), (one, box))
        deep = ((1, ((1, 0, 0, None),)), (1, ((5, 0, 0, None), (2, 0, 1, None))))
        empty = ((1, ((1, 0, 0, ()),)), (3, ((1, 0, 0, ()),)))
        self.assertIs(self.holds(BARREN, reader, (sayings, ((),) * 5 + (deep, empty))), True)
        self.assertIs(self.holds(BARREN, reader, (sayings, ((),) * 5 + (deep, (empty[0], (1, ((1, 0, 0, ()),)))))), False)
        # the maker e has a part of no kind with this saying where it stands otherwise
        self.assertIs(self.holds(BARREN, reader, (sayings, ((),) * 5 + (deep, (empty[0], (3, ((1, 1, 0, ()),)))))), False)


if __name__ == "__main__":
    unittest.main()
