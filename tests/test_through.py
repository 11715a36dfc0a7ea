"""[3] [31] Readers, printers, turners behind a turner: at every tree what is told of the turned one."""

import unittest
from fractions import Fraction

from boughkept.alike import told_alike
from boughkept.numbered import numbered_reader, print_alike
from boughkept.papermaker import paper_for
from boughkept.papers import paper_holds
from boughkept.printers import look_printer, printed_at
from boughkept.readers import boxes_at, look_reader
from boughkept.readertexts import read_reader, show_reader
from boughkept.sayings import sayings_of
from boughkept.through import print_through, read_through, turned_through
from boughkept.turners import look_turner, turned_tree
from boughkept.words import read_tree
from helpers import (
    CHAIN_READER, CHAINS, WOOD, chain_reader, chance, great_tree, maker_rows, pair, read_whole, some_reader,
    some_trees, some_wood, worth_at,
)
from printing import some_printer
from test_turners import FORKS, PARTS, TURNER
from turning import pattern_rows, pattern_tree, some_turner, turners_between

# each step turned into two, the chain without steps into one step
DOUBLE = ((0,), ((("z", ()), ("s", (0,))), (("part", 0), ("s", (0,)), ("s", (1,)))))
READER = read_reader(PARTS, "\n".join([
    "reader 2 1", "part 0 = 1", "part 1 = none", "pair 0 = 1 0.0 1.0 + 1 1.1", "pair 1 = 1 0.1 + 2 1.0 + 1/2", "one 0 = 3 0.0 + 1",
    "one 1 = 1 0.0 + 1 0.1 + -1 0.0", "rest 0 = 1 0.0 1.0 + 1 1.1", "end 0 = 5",
]))


def term_place(term):
    return [-1 if box is None else box for box in term[1]]


def substituted(first, second, turner, reader):
    """A reader behind a turner: each pattern read with dicts of boxes, a part's box being its own name."""
    (kinds, patterns), (counts, rules) = turner, reader
    sums = dict(zip([maker for maker, kind, parts in maker_rows(second)], rules))
    told = []
    for (maker, kind, parts), rows in zip(maker_rows(first), patterns):
        own = []
        for total in polys_of(pattern_tree(rows), sums, [counts[kinds[part]] for part in parts]):
            terms = []
            for marks, number in total.items():
                boxes = [None] * len(parts)
                for part, box in marks:
                    boxes[part] = box
                terms.append((pair(number), tuple(boxes)))
            own.append(tuple(sorted([term for term in terms if term[0][0]], key=term_place)))
        told.append(tuple(own))
    return (tuple([counts[kind] for kind in kinds]), tuple(told))


def polys_of(tree, sums, part_counts):
    """For each box of a pattern's tree a dict {((part, box), ..): number}."""
    if type(tree[1]) is int:
        return [{((tree[1], box),): Fraction(1)} for box in range(part_counts[tree[1]])]
    parts = [polys_of(part, sums, part_counts) for part in tree[1]]
    told = []
    for terms in sums[tree[0]]:
        total = {}
        for number, boxes in terms:
            product = {(): Fraction(*number)}
            for part, box in zip(parts, boxes):
                if box is not None:
                    product = {
                        tuple(sorted(mine + its)): one * other
                        for mine, one in product.items() for its, other in part[box].items()
                    }
            for marks, worth in product.items():
                total[marks] = total.get(marks, 0) + worth
        told.append(total)
    return told


def items_of(tree, rules, part_counts):
    """For each box of a pattern's tree its items, sign by sign."""
    if type(tree[1]) is int:
        return [[(tree[1], box)] for box in range(part_counts[tree[1]])]
    parts = [items_of(part, rules, part_counts) for part in tree[1]]
    return [
        [sign for item in row for sign in (list(item) if type(item) is str else parts[item[0]][item[1]])]
        for row in rules[tree[0]]
    ]


def joined(items):
    """Items with the signs that stand beside one another put together."""
    told = []
    for item in items:
        if type(item) is str and told and type(told[-1]) is str:
            told[-1] += item
        else:
            told.append(item)
    return tuple(told)


class TestReadThrough(unittest.TestCase):
    def test_told_ones(self):
        steps = chain_reader("none", "1 + 1 0.0")
        self.assertEqual(show_reader(CHAINS, read_through(CHAINS, CHAINS, DOUBLE, steps)), "reader 1\nz 0 = 1\ns 0 = 2 + 1 0.0")
        told = read_through(reader=CHAIN_READER, turner=DOUBLE, second=CHAINS, first=CHAINS)
        self.assertEqual(show_reader(CHAINS, told), "reader 2\nz 0 = 1\nz 1 = 2/3\ns 0 = 2 + 1 0.0\ns 1 = 4/9 0.1")
        self.assertEqual(show_reader(FORKS, read_through(FORKS, PARTS, TURNER, READER)), "\n".join([
            "reader 2 1", "a 0 = 1", "a 1 = none", "b 0 = 4", "b 1 = none", "f 0 = 1 0.0 1.0 + 1 0.1", "f 1 = 1/2 + 1 1.1 + 2 0.0",
            "g 0 = 1", "g 1 = 5/2", "c 0 = 5", "h 0 = 1 1.1 + 1 0.0 + 3 0.0 1.0",
        ]))

    def test_terms_put_together_and_in_order(self):
        # terms that come to nought are left out, alike ones are one
        wood = (("p", (("a", ()), ("g", ("p",)), ("f", ("p", "p")))),)
        turner = ((0,), ((("a", ()),), (("part", 0), ("g", (0,)), ("g", (1,))), (("part", 0), ("part", 1), ("f", (0, 1)), ("g", (2,)))))
        reader = read_reader(wood, "\n".join([
            "reader 2", "a 0 = 1 + -1 + 0", "a 1 = 1", "g 0 = 1 0.1 + 1 0.0", "g 1 = -1 0.0 + -1 0.1",
            "f 0 = 1 1.0 + 1 0.1 1.1 + 1 0.0 + 2", "f 1 = 1 0.0 + -1 0.1 1.1 + 1/2 + 1/2",
        ]))
        self.assertEqual(show_reader(wood, read_through(wood, wood, turner, reader)), "\n".join([
            "reader 2", "a 0 = none", "a 1 = 1", "g 0 = none", "g 1 = none", "f 0 = 3 + 1 1.0 + 2 0.0", "f 1 = -3 + -1 1.0 + -2 0.0",
        ]))

    def test_parts_left_out_and_no_boxes(self):
        reader = chain_reader("none", "1 + 1 0.0")
        turner = ((0,) * 4, tuple([(("z", ()), ("s", (0,))) for row in maker_rows(WOOD)]))
        told = read_through(WOOD, CHAINS, turner, reader)
        self.assertEqual(told[0], (1, 1, 1, 1))
        self.assertEqual(told[1][3], ((((1, 1), (None, None)),),))
        self.assertEqual(read_through(CHAINS, CHAINS, DOUBLE, ((0,), ((), ()))), ((0,), ((), ())))
        self.assertEqual(read_through((("p", ()),), CHAINS, ((0,), ()), reader), ((1,), ()))
        # a part as the whole: its boxes as they are
        same = read_through(CHAINS, CHAINS, ((0,), ((("z", ()),), (("part", 0),))), chain_reader("2", "3", "1 0.1", "1 0.0"))
        self.assertEqual(show_reader(CHAINS, same), "reader 2\nz 0 = 2\nz 1 = 3\ns 0 = 1 0.0\ns 1 = 1 0.1")

    def test_some_readers(self):
        source = chance(301)
        done = 0
        for turn, first, second, turner in turners_between(source, 150, (FORKS,), (PARTS, FORKS)):
            reader = some_reader(source, second, [source.randrange(5) for kind in second], most=source.choice((1, 3, 6)))
            told = read_through(first, second, turner, reader)
            self.assertIs(look_reader(first, told), True)
            self.assertEqual(told, substituted(first, second, turner, reader))
            for nested, tree in some_trees(turn, 4, first, 4):
                self.assertEqual(boxes_at(first, told, tree), boxes_at(second, reader, turned_tree(first, second, turner, tree)))
                done += 1
        self.assertGreater(done, 400)

    def test_great_trees(self):
        source = chance(302)
        told = read_through(FORKS, PARTS, TURNER, READER)
        for turn in range(4):
            tree = great_tree(source, FORKS, turn % 2, rows=30, most=300)
            self.assertEqual(boxes_at(FORKS, told, tree), boxes_at(PARTS, READER, turned_tree(FORKS, PARTS, TURNER, tree)))

    def test_sayings_and_papers_behind_a_turner(self):
        # the square of the steps, behind a turner that doubles them
        squares = chain_reader("none", "none", "1 + 1 0.0", "1 + 2 0.0 + 1 0.1")
        told = read_through(CHAINS, CHAINS, DOUBLE, squares)
        self.assertEqual([str(poly) for poly in sayings_of(CHAINS, told, 2)[0]], ["-1 x1 + 1 x0^2"])
        self.assertIs(paper_holds(CHAINS, told, paper_for(CHAINS, told, 2)), True)
        # a saying of the second holds behind each turner
        source = chance(303)
        for turn in range(40):
            first = source.choice((CHAINS, FORKS, some_wood(source, 2)))
            turner = some_turner(source, first, CHAINS)
            if turner is None:
                continue
            behind = read_through(first, CHAINS, turner, squares)
            for kind in range(len(first)):
                for nested, tree in some_trees(turn, 3, first, 4):
                    boxes = read_whole(first, behind, tree)
                    self.assertEqual(worth_at(sayings_of(CHAINS, squares, 2)[0][0], boxes), 0)

    def test_numbered_behind_is_behind_numbered(self):
        source = chance(304)
        for turn in range(40):
            first = source.choice((FORKS, CHAINS, some_wood(source)))
            second = source.choice((PARTS, FORKS, CHAINS))
            turner = some_turner(source, first, second)
            if turner is None:
                continue
            printer = some_printer(source, second, [source.randrange(3) for kind in second])
            numbered = read_through(first, second, turner, numbered_reader(second, printer))
            self.assertEqual(numbered, numbered_reader(first, print_through(first, second, turner, printer)))


class TestPrintThrough(unittest.TestCase):
    def test_told_ones(self):
        printer = ("xyz", (1,), ((("x",),), (("y", "z", (0, 0), "z"),)))
        self.assertEqual(print_through(CHAINS, CHAINS, DOUBLE, printer), ("xyz", (1,), ((("yzxz",),), (("yzyz", (0, 0), "zz"),))))
        # texts of the printer itself are put together, too
        same = ((0,), ((("z", ()),), (("part", 0), ("s", (0,)))))
        self.assertEqual(print_through(printer=printer, turner=same, second=CHAINS, first=CHAINS),
                         ("xyz", (1,), ((("x",),), (("yz", (0, 0), "z"),))))

    def test_rows_without_items(self):
        printer = ("x", (2,), (((), ("x",)), (((0, 1),), ((0, 0),))))
        told = print_through(CHAINS, CHAINS, DOUBLE, printer)
        self.assertEqual(told, ("x", (2,), ((("x",), ()), (((0, 0),), ((0, 1),)))))
        # a part's text box that stands nowhere is gone
        gone = ("xy", (1,), ((("x",),), (("y",),)))
        self.assertEqual(print_through(CHAINS, CHAINS, DOUBLE, gone), ("xy", (1,), ((("y",),), (("y",),))))
        empty = ("xy", (1,), (((),), (((0, 0),),)))
        self.assertEqual(print_through(CHAINS, CHAINS, DOUBLE, empty), ("xy", (1,), (((),), (((0, 0),),))))

    def test_parts_change_places(self):
        printer = ("abc()", (2, 1), (
            (("a",), ("b",)), (("(", (0, 0), (1, 0), ")"), ((1, 1), "c", (0, 1))), (("c", (0, 1)), ((0, 0),)),
            (((0, 0), (1, 0), (1, 1)),), (("c",),),
        ))
        self.assertIs(look_printer(PARTS, printer), True)
        self.assertEqual(print_through(FORKS, PARTS, TURNER, printer), ("abc()", (2, 1), (
            (("a",), ("b",)), (("cb",), ("a",)), (("(", (1, 0), (0, 0), ")"), ((0, 1), "c", (1, 1))), (("(aa)",), ("bcb",)),
            (("c",),), (((0, 0), "c", (1, 1), (1, 0), "ab"),),
        )))

    def test_some_printers(self):
        source = chance(305)
        done = 0
        for turn, first, second, turner in turners_between(source, 150, (FORKS,), (PARTS, FORKS)):
            printer = some_printer(source, second, [source.randrange(3) for kind in second])
            told = print_through(first, second, turner, printer)
            self.assertIs(look_printer(first, told), True)
            self.assert_form(first, second, turner, printer, told)
            for nested, tree in some_trees(turn, 4, first, 4):
                self.assertEqual(printed_at(first, told, tree), printed_at(second, printer, turned_tree(first, second, turner, tree)))
                done += 1
        self.assertGreater(done, 400)

    def assert_form(self, first, second, turner, printer, told):
        kinds, patterns = turner
        self.assertEqual((told[0], told[1]), (printer[0], tuple([printer[1][kind] for kind in kinds])))
        rules = dict(zip([maker for maker, kind, parts in maker_rows(second)], printer[2]))
        for (maker, kind, parts), rows, own in zip(maker_rows(first), patterns, told[2], strict=True):
            signs = items_of(pattern_tree(rows), rules, [printer[1][kinds[part]] for part in parts])
            self.assertEqual(own, tuple([joined(items) for items in signs]))

    def test_alike_behind_a_turner(self):
        # from the left, from the right: alike also behind a turner
        left = ("ab", (1,), ((("a",),), (("ab", (0, 0)),)))
        right = ("ab", (1,), ((("a",),), (((0, 0), "ba"),)))
        one, other = [print_through(CHAINS, CHAINS, DOUBLE, printer) for printer in (left, right)]
        self.assertEqual(print_alike(CHAINS, one, other, 0), ("alike",))
        self.assertEqual(print_alike(CHAINS, one, left, 0), ("tree", (("z", ()),)))


class TestTurnedThrough(unittest.TestCase):
    def test_told_ones(self):
        told = turned_through(CHAINS, CHAINS, CHAINS, DOUBLE, DOUBLE)
        self.assertEqual(told, ((0,), (
            (("z", ()), ("s", (0,)), ("s", (1,)), ("s", (2,))),
            (("part", 0), ("s", (0,)), ("s", (1,)), ("s", (2,)), ("s", (3,))),
        )))
        self.assertEqual(turned_through(other=DOUBLE, turner=DOUBLE, third=CHAINS, second=CHAINS, first=CHAINS), told)

    def test_rows_as_they_are_done_alike_ones_apart(self):
        wood = (("p", (("a", ()), ("f", ("p", "p")))),)
        # both parts alike, laid in another order
        turner = ((0,), ((("a", ()), ("a", ()), ("f", (1, 0))), (("part", 1), ("part", 0), ("a", ()), ("f", (2, 1)), ("f", (3, 0)))))
        same = ((0,), ((("a", ()),), (("part", 0), ("part", 1), ("f", (0, 1)))))
        ordered = ((0,), (
            (("a", ()), ("a", ()), ("f", (0, 1))), (("a", ()), ("part", 0), ("f", (0, 1)), ("part", 1), ("f", (2, 3))),
        ))
        self.assertEqual(turned_through(wood, wood, wood, turner, same), ordered)
        self.assertEqual(turned_through(wood, wood, wood, same, turner), ordered)
        self.assertEqual(turned_through(wood, wood, wood, same, same), same)
        twice = turned_through(wood, wood, wood, turner, turner)
        self.assertEqual(twice[1][0], (
            ("a", ()), ("a", ()), ("a", ()), ("f", (1, 2)), ("f", (0, 3)), ("a", ()), ("a", ()), ("f", (5, 6)), ("f", (4, 7)),
        ))

    def test_parts_left_out(self):
        # the second turner leaves out what the first one put there, parts and all
        wood = (("p", (("a", ()), ("g", ("p",)), ("f", ("p", "p")))),)
        turner = ((0,), ((("a", ()),), (("part", 0), ("a", ()), ("f", (0, 1))), (("part", 1), ("g", (0,)), ("part", 0), ("f", (1, 2)))))
        last = ((0,), ((("a", ()), ("g", (0,))), (("part", 0),), (("part", 1),)))
        self.assertEqual(turned_through(wood, wood, wood, turner, last), ((0,), (
            (("a", ()), ("g", (0,))), (("a", ()), ("g", (0,))), (("part", 0),),
        )))

    def test_a_maker_called_part(self):
        third = (("x", (("part", ("x", "x")), ("leaf", ()))),)
        other = ((0, 0), (
            (("leaf", ()),), (("part", 0), ("part", 1), ("part", (1, 0))), (("leaf", ()), ("part", 0), ("part", (0, 1))),
            (("part", 0), ("part", 1), ("part", (0, 1))), (("leaf", ()),),
        ))
        self.assertIs(look_turner(PARTS, third, other), True)
        told = turned_through(FORKS, PARTS, third, TURNER, other)
        self.assertIs(look_turner(FORKS, third, told), True)
        self.assertEqual(told[1][:4], (
            (("leaf", ()),), (("leaf", ()), ("leaf", ()), ("part", (0, 1))), (("part", 0), ("part", 1), ("part", (0, 1))),
            (("leaf", ()), ("leaf", ()), ("part", (0, 1))),
        ))
        tree = read_tree(FORKS, "f(b,g(a,c))")
        self.assertEqual(turned_tree(FORKS, third, told, tree), turned_tree(PARTS, third, other, turned_tree(FORKS, PARTS, TURNER, tree)))

    def test_some_turners(self):
        source = chance(306)
        done = 0
        for turn, first, second, turner in turners_between(source, 150, (FORKS,), (PARTS, FORKS)):
            third = source.choice((PARTS, FORKS, CHAINS, some_wood(source)))
            other = some_turner(source, second, third)
            if other is None:
                continue
            told = turned_through(first, second, third, turner, other)
            self.assertIs(look_turner(first, third, told), True)
            self.assert_form(first, second, turner, other, told)
            for nested, tree in some_trees(turn, 4, first, 4):
                both = turned_tree(second, third, other, turned_tree(first, second, turner, tree))
                self.assertEqual(turned_tree(first, third, told, tree), both)
                done += 1
        self.assertGreater(done, 400)

    def assert_form(self, first, second, turner, other, told):
        """Rows in the order in which they are done, held against the patterns turned as trees."""
        self.assertEqual(told[0], tuple([other[0][kind] for kind in turner[0]]))
        for rows, own in zip(turner[1], told[1], strict=True):
            whole = self.through(pattern_tree(rows), second, other)
            self.assertEqual(own, pattern_rows(None, whole))

    def through(self, tree, second, other):
        patterns = dict(zip([maker for maker, kind, parts in maker_rows(second)], other[1]))

        def put(pattern, parts):
            return parts[pattern[1]] if type(pattern[1]) is int else (pattern[0], tuple([put(own, parts) for own in pattern[1]]))

        def go(one):
            return one if type(one[1]) is int else put(pattern_tree(patterns[one[0]]), [go(part) for part in one[1]])

        return go(tree)

    def test_told_turners_behind_one_another(self):
        # more than eight rows, behind one another once more: 64, 512 and more rows
        eight = ((0,), ((("z", ()),), (("part", 0),) + tuple([("s", (at,)) for at in range(7)])))
        once = turned_through(CHAINS, CHAINS, CHAINS, eight, eight)
        twice = turned_through(CHAINS, CHAINS, CHAINS, once, eight)
        again = turned_through(CHAINS, CHAINS, CHAINS, eight, once)
        self.assertEqual((len(once[1][1]), len(twice[1][1])), (50, 344))
        self.assertEqual(again, twice)
        most = turned_through(CHAINS, CHAINS, CHAINS, twice, once)
        self.assertEqual(len(most[1][1]), 7 ** 5 + 1)
        self.assertIs(look_turner(CHAINS, CHAINS, most), True)
        tree = (("z", ()), ("s", (0,)), ("s", (1,)))
        self.assertEqual(len(turned_tree(CHAINS, CHAINS, twice, tree)), 2 * 343 + 1)
        steps = chain_reader("none", "1 + 1 0.0")
        self.assertEqual(show_reader(CHAINS, read_through(CHAINS, CHAINS, twice, steps)), "reader 1\nz 0 = none\ns 0 = 343 + 1 0.0")
        printer = ("ab", (1,), ((("a",),), (((0, 0), "b"),)))
        self.assertEqual(print_through(CHAINS, CHAINS, twice, printer)[2][1], (((0, 0), "b" * 343),))

    def test_all_ways_are_one(self):
        # a reader behind two turners: by one of both, or by one behind the other
        source = chance(307)
        for turn in range(60):
            first, second, third = FORKS, PARTS, source.choice((CHAINS, FORKS, PARTS))
            turner, other = some_turner(source, first, second), some_turner(source, second, third)
            if turner is None or other is None:
                continue
            both = turned_through(first, second, third, turner, other)
            reader = some_reader(source, third, [source.randrange(4) for kind in third])
            printer = some_printer(source, third, [source.randrange(3) for kind in third])
            self.assertEqual(read_through(first, third, both, reader),
                             read_through(first, second, turner, read_through(second, third, other, reader)))
            self.assertEqual(print_through(first, third, both, printer),
                             print_through(first, second, turner, print_through(second, third, other, printer)))

    def test_alike_by_told_alike(self):
        steps = chain_reader("none", "1 + 1 0.0")
        both = turned_through(CHAINS, CHAINS, CHAINS, DOUBLE, DOUBLE)
        one = read_through(CHAINS, CHAINS, both, steps)
        other = chain_reader("3", "4 + 1 0.0")
        self.assertEqual(told_alike(CHAINS, one, other, 0), ("alike",))

    def test_nothing_is_changed_and_the_same_is_told(self):
        printer = ("xyz", (1,), ((("x",),), (("y", "z", (0, 0), "z"),)))
        ahead = repr((FORKS, PARTS, TURNER, READER, DOUBLE, printer))
        first = [
            read_through(FORKS, PARTS, TURNER, READER), print_through(CHAINS, CHAINS, DOUBLE, printer),
            turned_through(CHAINS, CHAINS, CHAINS, DOUBLE, DOUBLE),
        ]
        self.assertEqual([
            read_through(FORKS, PARTS, TURNER, READER), print_through(CHAINS, CHAINS, DOUBLE, printer),
            turned_through(CHAINS, CHAINS, CHAINS, DOUBLE, DOUBLE),
        ], first)
        self.assertEqual(repr((FORKS, PARTS, TURNER, READER, DOUBLE, printer)), ahead)


if __name__ == "__main__":
    unittest.main()
