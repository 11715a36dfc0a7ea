"""[1] [2] [3] The whole promise over readers of every making: told by texts, raised, beside others, least, numbered, turned."""

import unittest
from fractions import Fraction

from boughkept.alike import put_beside, told_alike
from boughkept.answers import answered
from boughkept.grown import grown_trees
from boughkept.least import least_reader
from boughkept.machine import Machine
from boughkept.numbered import numbered_reader
from boughkept.papermaker import paper_for
from boughkept.papers import paper_holds
from boughkept.polytexts import read_poly
from boughkept.printers import printed_at
from boughkept.raised import put_back, raised_to, rooms_of
from boughkept.readers import boxes_at
from boughkept.readertexts import read_reader, show_reader
from boughkept.sayings import sayings_of
from boughkept.through import print_through, read_through, turned_through
from boughkept.trees import height_of, is_same, made_of, part_trees, plain_of
from boughkept.turners import turned_tree
from boughkept.woodtexts import read_wood, show_wood
from boughkept.words import read_tree, show_tree, tree_of, word_of
from helpers import (
    CHAINS, all_trees, chance, great_tree, maker_rows, rank_of, read_whole, room_row, some_poly, some_reader, some_trees,
    some_within, some_wood, worth_at,
)
from printing import some_printer
from turning import some_turner

FORKS = (("p", (("a", ()), ("b", ()), ("f", ("p", "p")), ("g", ("p",)))),)


def told_readers(source):
    """(name, wood, reader) of every making, within twelve rooms to the degree 1."""
    wood, own = some_within(source, 1, rooms=8)
    told = [("own", wood, own), ("least", wood, least_reader(wood, own)[0])]
    small = some_reader(source, FORKS, (2,))
    told.append(("raised", FORKS, raised_to(FORKS, small, 2)))
    told.append(("raised chains", CHAINS, raised_to(CHAINS, some_reader(source, CHAINS, (1,)), 4)))
    told.append(("beside", FORKS, put_beside(FORKS, small, some_reader(source, FORKS, (3,)))))
    told.append(("numbered", FORKS, numbered_reader(FORKS, some_printer(source, FORKS, (2,), texts=1))))
    two = some_wood(source, 2)
    turner = some_turner(source, two, FORKS)
    if turner is not None:
        told.append(("turned", two, read_through(two, FORKS, turner, some_reader(source, FORKS, (3,)))))
        printer = print_through(two, FORKS, turner, some_printer(source, FORKS, (1,), texts=1))
        told.append(("numbered and turned", two, numbered_reader(two, printer, "bca")))
        more = some_turner(source, two, two)
        if more is not None:
            both = turned_through(two, two, FORKS, more, turner)
            told.append(("turned twice", two, read_through(two, FORKS, both, some_reader(source, FORKS, (2,)))))
    return told


class TestTheWholePromise(unittest.TestCase):
    def trees_of(self, source, wood, reader, kind):
        """The boxes of all small trees of a kind and of some greater ones."""
        told = [boxes for height, nested, boxes in all_trees(wood, reader, 60)[1][kind]]
        for turn in range(2):
            tree = great_tree(source, wood, kind, rows=15, most=60)
            if tree is not None:
                told.append(read_whole(wood, reader, tree))
        return told

    def look(self, source, wood, reader, degree):
        sayings, grown = sayings_of(wood, reader, degree), grown_trees(wood, reader, degree)
        rooms = rooms_of(reader, degree)
        paper = paper_for(wood, reader, degree)
        self.assertEqual(paper[0], sayings)
        self.assertIs(paper_holds(wood, reader, paper), True)
        for kind, own in enumerate(sayings):
            for boxes in self.trees_of(source, wood, reader, kind):
                self.assertEqual({worth_at(poly, boxes) for poly in own} - {0}, set())
            self.assertEqual(len(own) + len(grown[kind]), rooms[kind])
            rows = [room_row(read_whole(wood, reader, tree), degree) for tree in grown[kind]]
            self.assertEqual(rank_of(rows), len(rows))
            self.assertLessEqual(max([height_of(tree) for tree in grown[kind]], default=0), sum(rooms))
            for at, poly in enumerate(own):
                if poly.degree() == degree:
                    numbers = tuple([(1, 1) if place == at else (0, 1) for place in range(len(own))])
                    self.assertEqual(answered(wood, reader, kind, poly), ("always", numbers))
                if self.is_short(poly):
                    self.assertEqual(read_poly(str(poly), poly.boxes), poly)
            self.ask(wood, reader, kind, some_poly(source, reader[0][kind], degree), grown[kind])

    def is_short(self, poly):
        return max([len(str(abs(number[0]))) for exponents, number in poly.terms()], default=1) <= 30

    def ask(self, wood, reader, kind, poly, trees):
        """A Poly is a sum of sayings, or broken by a told tree, and by none lower."""
        answer = answered(wood, reader, kind, poly)
        broken = [height_of(tree) for tree in trees if worth_at(poly, read_whole(wood, reader, tree)) != 0]
        if answer[0] == "always":
            self.assertEqual(broken, [])
        else:
            self.assertNotEqual(worth_at(poly, read_whole(wood, reader, answer[1])), 0)
            self.assertEqual(height_of(answer[1]), min(broken + [height_of(answer[1])]))

    def test_readers_of_every_making(self):
        source = chance(31)
        seen = set()
        for turn in range(14):
            for name, wood, reader in told_readers(source):
                seen.add(name)
                with self.subTest(turn=turn, reader=name):
                    self.look(source, wood, reader, 1)
        self.assertEqual(len(seen), 9)

    def test_greater_degrees(self):
        source = chance(32)
        for turn in range(24):
            degree = 2 + turn % 3
            wood, own = some_within(source, degree)
            turner = some_turner(source, wood, wood)
            self.look(source, wood, own, degree)
            if turner is not None:
                behind = read_through(wood, wood, turner, own)
                if sum(rooms_of(behind, degree)) <= 12:
                    self.look(source, wood, behind, degree)

    def test_the_machine_tells_what_reading_tells(self):
        source = chance(33)
        for turn in range(6):
            for name, wood, reader in told_readers(source):
                for nested, tree in some_trees(turn, 3, wood, 4):
                    machine = Machine(wood, reader)
                    machine.feed_all(word_of(tree))
                    self.assertEqual(len(machine), 1)
                    self.assertEqual(machine.pile()[0][1], boxes_at(wood, reader, tree))
                    self.assertLessEqual(machine.highest(), height_of(tree))

    def test_least_readers_tell_the_first(self):
        source = chance(34)
        for turn in range(8):
            for name, wood, reader in told_readers(source):
                least, tables = least_reader(wood, reader)
                for nested, tree in some_trees(turn, 3, wood, 4):
                    kind = [own for maker, own, parts in maker_rows(wood) if maker == tree[-1][0]][0]
                    boxes = boxes_at(wood, least, tree)
                    self.assertEqual(tuple([poly.worth(boxes) for poly in tables[kind]]), boxes_at(wood, reader, tree))

    def test_alike_with_itself_otherwise_told(self):
        # a reader and its own boxes behind a turner that changes nothing
        source = chance(35)
        for turn in range(30):
            wood, reader = some_within(source, 1, rooms=7)
            same = (tuple(range(len(wood))), tuple([
                tuple([("part", at) for at in range(len(parts))]) + ((maker, tuple(range(len(parts)))),)
                for maker, kind, parts in maker_rows(wood)
            ]))
            other = read_through(wood, wood, same, reader)
            for kind, count in enumerate(reader[0]):
                for box in range(count):
                    self.assertEqual(told_alike(wood, reader, other, kind, box, box), ("alike",))

    def test_put_back_by_told_trees(self):
        source = chance(36)
        for turn in range(20):
            wood, reader = some_within(source, 2)
            grown = grown_trees(wood, reader, 2)
            for maker, kind, parts in maker_rows(wood):
                poly = some_poly(source, reader[0][kind], 3)
                if all([grown[part] for part in parts]):
                    trees = [source.choice(grown[part]) for part in parts]
                    whole = made_of(maker, trees)
                    boxes = sum([boxes_at(wood, reader, tree) for tree in trees], ())
                    self.assertEqual(put_back(wood, reader, maker, poly).worth(boxes), poly.worth(boxes_at(wood, reader, whole)))

    def test_texts_are_read_back(self):
        source = chance(37)
        for turn in range(20):
            for name, wood, reader in told_readers(source):
                self.assertEqual(read_wood(show_wood(wood)), wood)
                if max(reader[0]) <= 4 and self.has_short_numbers(reader):
                    self.assertEqual(read_reader(wood, show_reader(wood, reader)), reader)
                for own in grown_trees(wood, reader):
                    for tree in own:
                        self.assertEqual(read_tree(wood, show_tree(tree)), tree)
                        self.assertEqual(tree_of(wood, word_of(tree)), tree)
                        self.assertTrue(is_same(made_of(tree[-1][0], part_trees(tree)), plain_of(tree)))

    def has_short_numbers(self, reader):
        numbers = [number for sums in reader[1] for terms in sums for number, boxes in terms]
        return max([len(str(abs(part))) for number in numbers for part in number], default=1) <= 30

    def test_turned_trees_are_printed_and_read(self):
        source = chance(38)
        for turn in range(30):
            first, second = some_wood(source), FORKS
            turner = some_turner(source, first, second)
            if turner is None:
                continue
            reader = some_reader(source, second, (2,))
            printer = some_printer(source, second, (2,))
            for nested, tree in some_trees(turn, 4, first, 4):
                into = turned_tree(first, second, turner, tree)
                self.assertEqual(boxes_at(first, read_through(first, second, turner, reader), tree), boxes_at(second, reader, into))
                self.assertEqual(printed_at(first, print_through(first, second, turner, printer), tree), printed_at(second, printer, into))

    def test_great_told_numbers_are_handed_on(self):
        # numbers far beyond those that are read: told boxes and Polys go on
        reader = read_reader(CHAINS, "reader 1\nz 0 = 3000/7\ns 0 = 2999/200 0.0")
        tree = (("z", ()),) + tuple([("s", (at,)) for at in range(59)])
        boxes = boxes_at(CHAINS, reader, tree)
        self.assertEqual(Fraction(*boxes[0]), Fraction(3000, 7) * Fraction(2999, 200) ** 59)
        poly = some_poly(chance(39), 1).by(read_poly("1 x0", 1))
        self.assertEqual(Fraction(*poly.worth(boxes)), worth_at(poly, [Fraction(*boxes[0])]))


if __name__ == "__main__":
    unittest.main()
