"""[25] [26] Printers looked at, and what they print."""

import itertools
import unittest

from boughkept.errors import NoPrinter
from boughkept.printers import look_printer, printed_at
from boughkept.words import read_tree
from helpers import (
    BARREN, CHAINS, WOOD, chance, great_tree, maker_rows, nested_at, refusal, rows_of_size, some_trees, some_wood,
)
from printing import printed, some_printer

PAIRS = (("p", (("a", ()), ("f", ("p", "p")), ("g", ("q",)))), ("q", (("b", ()), ("h", ("q", "p")))), ("r", (("c", ("r", "r")),)))
# the first kind's two texts: with brackets, without; the second's one
PRINTER = (
    "()ab,",
    (2, 1, 0),
    (
        (("a",), ("a",)),
        (("(", (0, 0), ",", (1, 0), ")"), ((1, 1), (0, 1))),
        (("b", (0, 0)), ()),
        (("b", "b"),),
        (((1, 1), "a", (0, 0)),),
        (),
    ),
)


def amiss(wood, printer):
    """All that is amiss with a printer, as (word, maker), in the order in which it is looked for."""
    letters, counts, rules = printer
    told = []
    signs = [chr(code) for code in range(33, 127) if chr(code) != "%"]
    if len(letters) not in range(1, 10) or len(set(letters)) < len(letters) or not set(letters) <= set(signs):
        told.append(("letters", ""))
    if len(counts) != len(wood) or not set(counts) <= {0, 1, 2}:
        told.append(("counts", ""))
        return told
    makers = maker_rows(wood)
    if len(rules) != len(makers):
        told.append(("rules", ""))
    for (maker, kind, parts), rows in zip(makers, rules):
        if len(rows) != counts[kind]:
            told.append(("rows", maker))
        items = [item for row in rows for item in row]
        for at, item in enumerate(items):
            if type(item) is str:
                told += [("letters", maker)] * (item == "" or not set(item) <= set(letters))
            else:
                told += [("part", maker)] * (item[0] not in range(len(parts)))
                there = item[0] in range(len(parts)) and item[1] in range(counts[parts[item[0]]])
                told += [("box", maker)] * (not there) + [("twice", maker)] * (item in items[:at])
    return told


def with_rule(printer, at, rows):
    letters, counts, rules = printer
    return (letters, counts, rules[:at] + (rows,) + rules[at + 1:])


class TestLookPrinter(unittest.TestCase):
    def look(self, wood, printer):
        """What look_printer tells, held against all that is amiss."""
        due = amiss(wood, printer)
        if not due:
            self.assertIs(look_printer(wood, printer), True)
            return None
        refused = refusal(NoPrinter, look_printer, wood, printer)
        self.assertEqual((refused.word, refused.maker), due[0], printer)
        return due[0]

    def test_let_by(self):
        self.assertIs(look_printer(PAIRS, PRINTER), True)
        self.assertIs(look_printer(printer=PRINTER, wood=PAIRS), True)
        self.assertIs(look_printer(CHAINS, ("a", (0,), ((), ()))), True)
        self.assertIs(look_printer(CHAINS, ("a", (1,), (((),), ((),)))), True)
        self.assertIs(look_printer((("p", ()),), ("~!", (2,), ())), True)

    def test_letters(self):
        empty = ((0,), ((), ()))
        for letters in ("a", "!", "~", "ab", "123456789", "!\"#$&'()*", "aA", "\\", "{}"):
            self.assertIsNone(self.look(CHAINS, (letters, *empty)))
        for letters in (
            "", "0123456789", "abcdefghij", "aa", "abca", " ", "a b", "%", "a%", "\n", "a\n", "\x7f", "\x1f", "a" * 10,
            "\u00e9", "\x00",
        ):
            self.assertEqual(self.look(CHAINS, (letters, *empty)), ("letters", ""))
        for code in range(128):
            refused = self.look(CHAINS, (chr(code), *empty))
            self.assertEqual(refused is None, 33 <= code <= 126 and code != 37)

    def test_counts(self):
        for counts in ((), (0, 0), (-1,), (3,), (4,), (10 ** 30,), (-10 ** 30,)):
            self.assertEqual(self.look(CHAINS, ("a", counts, ((), ()))), ("counts", ""))
        for count in (0, 1, 2):
            self.assertIsNone(self.look(CHAINS, ("a", (count,), (((),) * count,) * 2)))

    def test_rules(self):
        for rules in ((), ((),), ((), (), ())):
            self.assertEqual(self.look(CHAINS, ("a", (0,), rules)), ("rules", ""))
        self.assertEqual(self.look((("p", ()),), ("a", (2,), ((),))), ("rules", ""))

    def test_rows(self):
        for at, (maker, kind, parts) in enumerate(maker_rows(PAIRS)):
            for many in (0, 1, 2, 3):
                refused = self.look(PAIRS, with_rule(PRINTER, at, ((),) * many))
                self.assertEqual(refused, None if many == PRINTER[1][kind] else ("rows", maker))

    def test_texts(self):
        for text, fine in (("a", True), ("abba((,", True), ("", False), ("c", False), ("abc", False), (" ", False), ("a b", False),
                           ("a\n", False), ("A", False), ("%", False), ("a" * 8, True), ("a" * 7 + "z", False)):
            for rows, at, maker in ((((text,), ()), 0, "a"), (((), ("a", text)), 2, "g"), ((((0, 0), text, (1, 0)),), 4, "h")):
                refused = self.look(PAIRS, with_rule(PRINTER, at, rows))
                self.assertEqual(refused, None if fine else ("letters", maker))

    def test_parts_and_boxes(self):
        for at, (maker, kind, parts) in enumerate(maker_rows(PAIRS)[:5]):
            for part, box in itertools.product((-2, -1, 0, 1, 2, 10 ** 30), repeat=2):
                refused = self.look(PAIRS, with_rule(PRINTER, at, (((part, box),),) + ((),) * (PRINTER[1][kind] - 1)))
                if part not in range(len(parts)):
                    self.assertEqual(refused, ("part", maker))
                elif box not in range(PRINTER[1][parts[part]]):
                    self.assertEqual(refused, ("box", maker))
                else:
                    self.assertIsNone(refused)

    def test_twice(self):
        for rows in (
            (((0, 0), (0, 0)), ()), (((0, 0),), ((0, 0),)), (((0, 0), (1, 0), "a"), ("b", (1, 1), (1, 0))),
            ((), ((0, 1), "a", (0, 1))),
        ):
            self.assertEqual(self.look(PAIRS, with_rule(PRINTER, 1, rows)), ("twice", "f"))
        # of each part and box once, in any rows
        self.assertIsNone(self.look(PAIRS, with_rule(PRINTER, 1, (((0, 1), (1, 0)), ((1, 1), (0, 0))))))
        # twice in two makers' rules
        self.assertIsNone(self.look(PAIRS, with_rule(PRINTER, 2, ((), ((0, 0),)))))

    def test_the_first_of_several(self):
        wrong = (("", (5,), ()), ("%", (1,), ()), ("a", (3,), ()), ("a", (1,), ()), ("a", (1,), ((), (("b",),))))
        words = [self.look(CHAINS, printer) for printer in wrong]
        self.assertEqual(words, [("letters", ""), ("letters", ""), ("counts", ""), ("rules", ""), ("rows", "z")])
        # within one item, one row, one maker
        for rows, word in (
            (((2, 7), ""), "part"), (((0, 7), ""), "box"), (((0, 0), "", (0, 0)), "letters"), (((0, 0), (0, 0), ""), "twice"),
            (((0, 0), (2, 0), (0, 0)), "part"), (("", (2, 0)), "letters"), (((0, 2), (0, 2)), "box"),
        ):
            self.assertEqual(self.look(PAIRS, with_rule(PRINTER, 1, (rows, ("?",)))), (word, "f"))
            self.assertEqual(self.look(PAIRS, with_rule(PRINTER, 1, ((), rows))), (word, "f"))
            self.assertEqual(self.look(PAIRS, with_rule(PRINTER, 1, (rows, (), ()))), ("rows", "f"))
            both = with_rule(with_rule(PRINTER, 1, (rows, ())), 3, ())
            self.assertEqual(self.look(PAIRS, both), (word, "f"))

    def test_some_printers(self):
        source = chance(261)
        for turn in range(100):
            wood = source.choice((PAIRS, CHAINS, BARREN, WOOD, some_wood(source)))
            printer = some_printer(source, wood, [source.randrange(3) for kind in wood])
            self.assertIsNone(self.look(wood, printer))
            for go in range(10):
                self.look(wood, self.otherwise(source, wood, self.otherwise(source, wood, printer)))

    def otherwise(self, source, wood, printer):
        """The printer with something else in it."""
        letters, counts, rules = printer
        deed = source.randrange(8)
        if deed == 0:
            return (source.choice(("a", "ba", "abc", "", "aab", "a b")), counts, rules)
        if deed == 1:
            at = source.randrange(len(counts))
            return (letters, counts[:at] + (source.randrange(-1, 4),) + counts[at + 1:], rules)
        if deed == 2 and source.randrange(3) == 0:
            return (letters, counts, rules[:-1])
        at = source.randrange(len(rules)) if rules else 0
        if not rules or not rules[at]:
            return printer
        place = source.randrange(len(rules[at]))
        row = rules[at][place]
        put = source.randrange(len(row) + 1)
        item = source.choice(("a", "", "c", (0, 0), (0, 1), (1, 0), (1, 1), (2, 0), (0, 2), (-1, 0), (0, -1)))
        row = row[:put] + (item,) + row[put + source.randrange(2):]
        return with_rule(printer, at, rules[at][:place] + (row,) + rules[at][place + 1:])

    def test_nothing_is_changed(self):
        ahead = repr((PAIRS, PRINTER))
        for turn in range(2):
            self.assertIs(look_printer(PAIRS, PRINTER), True)
            refusal(NoPrinter, look_printer, PAIRS, ("", PRINTER[1], PRINTER[2]))
        self.assertEqual(repr((PAIRS, PRINTER)), ahead)


class TestPrintedAt(unittest.TestCase):
    def test_told_ones(self):
        for text, expected in (
            ("a", ("a", "a")), ("f(a,a)", ("(a,a)", "aa")), ("b", ("bb",)), ("g(b)", ("bbb", "")), ("h(b,a)", ("aabb",)),
            ("f(f(a,g(b)),a)", ("((a,bbb),a)", "aa")), ("f(a,f(g(b),a))", ("(a,(bbb,a))", "aa")),
        ):
            self.assertEqual(printed_at(PAIRS, PRINTER, read_tree(PAIRS, text)), expected)
        self.assertEqual(printed_at(tree=read_tree(PAIRS, "a"), printer=PRINTER, wood=PAIRS), ("a", "a"))

    def test_the_last_text_box_first(self):
        # which part, which box: all four of two parts, in another order
        wood = (("p", (("a", ()), ("b", ()), ("f", ("p", "p")))),)
        printer = ("abcdxyz", (2,), ((("a",), ("b",)), (("c",), ("d",)), (((1, 1), "x", (0, 0)), ("y", (0, 1), (1, 0), "z"))))
        self.assertEqual(printed_at(wood, printer, read_tree(wood, "f(a,b)")), ("dxa", "ybcz"))
        self.assertEqual(printed_at(wood, printer, read_tree(wood, "f(f(a,b),a)")), ("bxdxa", "yybczaz"))

    def test_rows_that_are_parts_of_many_or_of_none(self):
        tree = (("b", ()), ("a", ()), ("g", (0,)), ("f", (1, 1)), ("a", ()), ("f", (3, 3)))
        self.assertEqual(printed_at(PAIRS, PRINTER, tree), ("((a,a),(a,a))", "aaaa"))
        self.assertEqual(printed_at(PAIRS, PRINTER, tree + (("a", ()),)), ("a", "a"))
        self.assertEqual(printed_at(PAIRS, PRINTER, tree + (("h", (0, 5)),)), ("aaaaabb",))

    def test_no_text_boxes_and_rows_without_items(self):
        self.assertEqual(printed_at(CHAINS, ("a", (0,), ((), ())), (("z", ()), ("s", (0,)))), ())
        self.assertEqual(printed_at(CHAINS, ("a", (2,), (((), ()), ((), ((0, 0),)))), (("z", ()), ("s", (0,)))), ("", ""))
        # letters of any sign are printed as they stand
        marks = ("\\'\"{}#~", (1,), ((("\\'",),), (("{\"}", (0, 0), "#~"),)))
        self.assertEqual(printed_at(CHAINS, marks, (("z", ()), ("s", (0,)), ("s", (1,)))), ("{\"}{\"}\\'#~#~",))

    def test_some_trees(self):
        source = chance(262)
        for turn in range(60):
            wood = source.choice((WOOD, PAIRS[:2], BARREN, some_wood(source)))
            printer = some_printer(source, wood, [source.randrange(3) for kind in wood])
            for nested, tree in some_trees(turn, 8, wood, 5):
                told = printed_at(wood, printer, tree)
                self.assertEqual((type(told), told), (tuple, printed(wood, printer, nested)))

    def test_great_trees(self):
        source = chance(263)
        counts = (1, 2, 0, 1)
        long = some_printer(source, WOOD, counts, "abcdefghi", texts=3)
        for turn in range(6):
            tree = great_tree(source, WOOD, turn % 2)
            self.assertEqual(printed_at(WOOD, long, tree), printed(WOOD, long, nested_at(tree)))
        # a size of 2,000: each name prints eight signs
        rules = []
        for maker, kind, parts in maker_rows(WOOD):
            rules.append((("abcdefgh",) + tuple([(part, 0) for part, own in enumerate(parts) if own == 0]),) if kind == 0 else ())
        printer = ("abcdefghi", (1, 0, 0, 0), tuple(rules))
        tree = rows_of_size(2000)
        self.assertEqual(printed_at(WOOD, printer, tree), ("abcdefgh" * 2000,))

    def test_sixty_rows(self):
        tree = (("z", ()),) + tuple([("s", (at,)) for at in range(59)])
        printer = ("ab", (2,), ((("a",), ()), (((0, 0), "b"), ("a", (0, 1)))))
        self.assertEqual(printed_at(CHAINS, printer, tree), ("a" + "b" * 59, "a" * 59))

    def test_nothing_is_changed_and_the_same_is_told(self):
        tree = read_tree(PAIRS, "f(a,g(h(b,a)))")
        ahead = repr((PRINTER, tree))
        first = printed_at(PAIRS, PRINTER, tree)
        printed_at(CHAINS, ("a", (0,), ((), ())), (("z", ()),))
        self.assertEqual(printed_at(PAIRS, PRINTER, tree), first)
        self.assertEqual(repr((PRINTER, tree)), ahead)


if __name__ == "__main__":
    unittest.main()
