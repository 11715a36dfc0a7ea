"""[3] [23] A paper told: it holds, with just the sayings to the degree."""

import unittest
from fractions import Fraction

from boughkept.papermaker import paper_for
from boughkept.papers import paper_holds
from boughkept.polys import Poly
from boughkept.raised import raised_to
from boughkept.readertexts import read_reader
from boughkept.sayings import sayings_of
from helpers import (
    BARREN, CHAIN_READER, CHAINS, READER, WOOD, all_trees, chance, great_tree, maker_rows, pair, read_whole, some_reader,
    some_within, worth_at,
)
from test_papers import FORK_PAPER, FORK_READER, FORKS, SQUARES, by_hand


class TestPaperFor(unittest.TestCase):
    def look(self, wood, reader, degree):
        """Holds a told paper against the points' words; tells it."""
        paper = paper_for(wood, reader, degree)
        self.assertEqual((type(paper), len(paper)), (tuple, 2))
        sayings, shown = paper
        self.assertEqual(sayings, sayings_of(wood, reader, degree))
        self.assertEqual({type(thing) for thing in (sayings, *sayings, shown, *shown)}, {tuple})
        for (maker, kind, parts), rows in zip(maker_rows(wood), shown, strict=True):
            for row in rows:
                self.assertEqual((type(row), len(row), type(row[0]), type(row[1])), (tuple, 2, int, tuple))
                for entry in row[1]:
                    self.assertEqual((type(entry), [type(number) for number in entry[:3]]), (tuple, [int, int, int]))
                    self.assertEqual(type(entry[3]), tuple if len(parts) == 2 else type(None))
                    self.assertEqual({type(number) for number in entry[3] or ()} - {int}, set())
        self.assertIs(paper_holds(wood, reader, paper), True)
        self.assertIs(by_hand(wood, reader, paper), True)
        return paper

    def test_told_ones(self):
        self.assertEqual(paper_for(FORKS, FORK_READER), FORK_PAPER)
        self.assertEqual(paper_for(reader=FORK_READER, wood=FORKS), FORK_PAPER)
        sayings, shown = self.look(CHAINS, SQUARES, 2)
        self.assertEqual([str(poly) for poly in sayings[0]], ["-1 x1 + 1 x0^2"])
        self.assertEqual(shown, (((1, ()),), ((1, ((1, 0, 0, None),)),)))

    def test_the_default_degree(self):
        for wood, reader in ((CHAINS, SQUARES), (FORKS, FORK_READER), (WOOD, READER)):
            self.assertEqual(paper_for(wood, reader), paper_for(wood, reader, 1))
            self.assertEqual(paper_for(wood, reader), paper_for(degree=1, reader=reader, wood=wood))
        self.assertEqual(paper_for(CHAINS, SQUARES), (((),), ((), ())))
        self.assertNotEqual(paper_for(CHAINS, SQUARES, 2), paper_for(CHAINS, SQUARES))

    def test_no_sayings_no_boxes(self):
        self.assertEqual(self.look(CHAINS, ((0,), ((), ())), 4), (((),), ((), ())))
        self.assertEqual(self.look((("p", ()),), ((0,), ()), 3), (((Poly(0, [((), (1, 1))]),),), ()))

    def test_some_readers(self):
        source = chance(231)
        shown = 0
        for turn in range(320):
            degree = 1 + turn % 4
            wood, reader = some_within(source, degree)
            sayings, rows = self.look(wood, reader, degree)
            shown += len([row for own in rows for row in own])
            if turn % 4 == 0:
                self.assert_nought(source, wood, reader, sayings)
        self.assertGreater(shown, 500)

    def assert_nought(self, source, wood, reader, sayings):
        for kind, own in enumerate(all_trees(wood, reader, 100)[1]):
            trees = [boxes for height, nested, boxes in own]
            great = [great_tree(source, wood, kind, rows=30, most=300) for go in range(2)]
            trees += [read_whole(wood, reader, tree) for tree in great if tree is not None]
            for boxes in trees:
                self.assertEqual({worth_at(poly, boxes) for poly in sayings[kind]} - {0}, set())

    def test_twelve_rooms(self):
        source = chance(232)
        wood = (("p", (("a", ()), ("b", ()), ("f", ("p", "p")), ("g", ("p",)))),)
        two = (("p", (("a", ()), ("f", ("p", "q")), ("h", ("q", "q")))), ("q", (("b", ()), ("g", ("q", "p")))))
        four = BARREN[:2] + (("r", (("c", ()), ("i", ("q", "r")))), ("s", (("j", ("r", "s")), ("k", ()))))
        for turn in range(24):
            for own, counts, degree in (
                (wood, (2,), 3), (wood, (1,), 4), (wood, (3,), 2), (wood, (4,), 1), (two, (1, 1), 4), (two, (2, 2), 2),
                (two, (2, 1), 2), (four, (2, 2, 2, 2), 1), (four, (1, 1, 1, 1), 2), (four, (2, 1, 0, 0), 2),
            ):
                self.look(own, some_reader(source, own, counts, most=1 + turn % 3), degree)

    def test_kinds_without_trees(self):
        source = chance(233)
        for turn in range(40):
            for counts, degree in (((0, 1, 1, 1), 2), ((1, 1, 0, 1), 3), ((1, 0, 2, 2), 1), ((0, 0, 1, 0), 4), ((0, 0, 1, 1), 3)):
                sayings, shown = self.look(BARREN, some_reader(source, BARREN, counts), degree)
                for kind in (2, 3):
                    self.assertEqual(str(sayings[kind][0]), "1")

    def test_fractions_that_are_none_of_whole_numbers(self):
        # put back through a step the saying is a sixth of itself, so m has to be above 1
        reader = read_reader(CHAINS, "reader 2\nz 0 = 1\nz 1 = 2\ns 0 = 1/2 0.0 + 1/6 0.1\ns 1 = 2/3 0.0 + 1/2 0.1")
        sayings, shown = self.look(CHAINS, reader, 1)
        self.assertEqual([str(poly) for poly in sayings[0]], ["-2 x0 + 1 x1"])
        times, entries = shown[1][0]
        self.assertEqual([entry[1:] for entry in entries], [(0, 0, None)])
        self.assertEqual(Fraction(entries[0][0], times), Fraction(1, 6))

    def test_lower_numbers_to_200(self):
        source = chance(234)

        def number(source):
            return pair(Fraction(source.randrange(-3000, 3000), source.randrange(1, 201)))

        wood = (("p", (("a", ()), ("f", ("p", "p")))),)
        for counts, degree in (((1,), 4), ((2,), 2), ((4,), 1)):
            # a second box that is twice the first and 1/7 more, told with these numbers
            reader = some_reader(source, wood, counts, 2, number)
            self.look(wood, reader, degree)
        first = some_reader(source, wood, (1,), 6, number)
        twice = [tuple([(pair(2 * Fraction(*own)), boxes) for own, boxes in sums[0]]) + (((1, 7), (None,) * at * 2),)
                 for at, sums in enumerate(first[1])]
        reader = ((2,), tuple([(sums[0], more) for sums, more in zip(first[1], twice)]))
        for degree in (1, 2, 3):
            sayings, shown = self.look(wood, reader, degree)
            self.assertEqual(str(sayings[0][0]), "-1 + -14 x0 + 7 x1")

    def test_told_readers(self):
        raised = raised_to(CHAINS, SQUARES, 2)
        self.assertEqual(len(self.look(CHAINS, raised, 1)[0][0]), 1)
        self.look(CHAINS, raised_to(CHAINS, CHAIN_READER, 2), 1)

    def test_nothing_is_changed_and_the_same_is_told(self):
        ahead = repr((CHAINS, SQUARES))
        first = paper_for(CHAINS, SQUARES, 3)
        paper_for(WOOD, READER)
        paper_for(CHAINS, CHAIN_READER, 2)
        self.assertEqual(paper_for(CHAINS, SQUARES, 3), first)
        self.assertEqual(repr((CHAINS, SQUARES)), ahead)


if __name__ == "__main__":
    unittest.main()
