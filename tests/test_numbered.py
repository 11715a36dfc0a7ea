"""[3] [27] [28] Texts as numbers, printers numbered, and whether two printers print the same."""

import itertools
import math
import unittest
from fractions import Fraction

from boughkept.alike import put_beside
from boughkept.numbered import numbered_reader, print_alike, text_width, text_worth
from boughkept.papermaker import paper_for
from boughkept.papers import paper_holds
from boughkept.polytexts import read_poly
from boughkept.printers import look_printer, printed_at
from boughkept.readers import boxes_at, look_reader
from boughkept.readertexts import show_reader
from boughkept.sayings import sayings_of
from boughkept.trees import height_of
from helpers import (
    BARREN, CHAINS, WOOD, all_trees, chance, great_tree, height_told, maker_rows, pair, read_whole, some_trees, some_wood,
    worth_at,
)
from printing import printed, some_printer, width, worth

FORKS = (("p", (("a", ()), ("b", ()), ("f", ("p", "p")))),)


def chain(steps):
    return (("z", ()),) + tuple([("s", (at,)) for at in range(steps)])


def choices_of(count):
    """The choices of so many text boxes, rising."""
    return list(itertools.product((0, 1, 2), repeat=count))[1:]


def product_at(letters, texts, choice):
    """The product of the worths and widths that a choice tells."""
    return math.prod([(1, worth(letters, text), width(letters, text))[mark] for text, mark in zip(texts, choice)])


def numbered_by_hand(wood, printer, letters):
    """The numbered reader, each sum a dict of {(part, box): mark} written out as a sorted tuple."""
    own, counts, rules = printer
    told = []
    for (maker, kind, parts), rows in zip(maker_rows(wood), rules):
        part_choices = [choices_of(counts[part]) for part in parts]
        sums = []
        for choice in choices_of(counts[kind]):
            total = {(): 1}
            for row, mark in zip(rows, choice):
                if mark:
                    total = times(total, row_worth(letters, row) if mark == 1 else row_width(letters, row))
            terms = []
            for marks, number in total.items():
                marked = dict(marks)
                per_part = [tuple([marked.get((at, box), 0) for box in range(counts[part])]) for at, part in enumerate(parts)]
                boxes = [part_choices[at].index(own) if any(own) else None for at, own in enumerate(per_part)]
                terms.append((pair(number), tuple(boxes)))
            terms = [term for term in terms if term[0][0]]
            sums.append(tuple(sorted(terms, key=lambda term: [-1 if box is None else box for box in term[1]])))
        told.append(tuple(sums))
    return (tuple([3 ** count - 1 for count in counts]), tuple(told))


def times(one, other):
    total = {}
    for (marks, number), (its, factor) in itertools.product(one.items(), other.items()):
        key = tuple(sorted(marks + its))
        total[key] = total.get(key, 0) + number * factor
    return total


def row_width(letters, row):
    return {
        tuple(sorted([(item, 2) for item in row if type(item) is tuple])):
        math.prod([width(letters, item) for item in row if type(item) is str])
    }


def row_worth(letters, row):
    total = {}
    for at, item in enumerate(row):
        mine = {(): worth(letters, item)} if type(item) is str else {((item, 1),): 1}
        for key, number in times(mine, row_width(letters, row[at + 1:])).items():
            total[key] = total.get(key, 0) + number
    return total


class TestTextNumbers(unittest.TestCase):
    def test_told_ones(self):
        for letters, text, its_worth, its_width in (
            ("a", "", 0, 1), ("a", "a", 1, 2), ("a", "aa", 3, 4), ("ab", "ab", 5, 9), ("ba", "ab", 7, 9), ("ab", "ba", 7, 9),
            ("123456789", "907"[:1], 9, 10), ("123456789", "1984", 1984, 10000), ("~!", "!!~", 25, 27), ("abcdefghi", "", 0, 1),
        ):
            self.assertEqual((text_worth(letters, text), text_width(letters, text)), (its_worth, its_width), text)
        self.assertEqual(text_worth(text="ba", letters="ab"), 7)
        self.assertEqual(text_width(text="ba", letters="ab"), 9)

    def test_some_texts(self):
        source = chance(271)
        for letters in ("a", "ab", "#(~", "cab", "zyxwvuts9"):
            for many in list(range(40)) + [63, 64, 65, 200, 1000]:
                text = "".join([source.choice(letters) for sign in range(many)])
                self.assertEqual(text_worth(letters, text), worth(letters, text))
                self.assertEqual(text_width(letters, text), width(letters, text))

    def test_great_texts(self):
        for text in ("i" * 4000, "ai" * 2000, "abcdefghi" * 444):
            told = text_worth("abcdefghi", text)
            number = 0
            for sign in text:
                number = number * 10 + "abcdefghi".index(sign) + 1
            self.assertEqual((type(told), told), (int, number))
            self.assertEqual(text_width("abcdefghi", text), 10 ** len(text))
        # what was printed is handed on, whatever its size
        self.assertEqual(text_worth("a", "a" * 128000), 2 ** 128000 - 1)
        self.assertEqual(text_width("abc", "a" * 128000), 4 ** 128000)

    def test_unlike_texts_have_unlike_worths(self):
        for letters in ("a", "ba", "xyz"):
            texts = ["".join(signs) for many in range(6) for signs in itertools.product(letters, repeat=many)]
            self.assertEqual(len({text_worth(letters, text) for text in texts}), len(texts))


class TestNumberedReader(unittest.TestCase):
    def test_one_text_box(self):
        printer = ("ab", (1,), ((("ab",),), (("b", (0, 0), "a"),)))
        self.assertEqual(show_reader(CHAINS, numbered_reader(CHAINS, printer)), "\n".join([
            "reader 2", "z 0 = 5", "z 1 = 9", "s 0 = 1 + 3 0.0 + 6 0.1", "s 1 = 9 0.1",
        ]))
        # by more letters, in another order
        self.assertEqual(show_reader(CHAINS, numbered_reader(CHAINS, printer, "bca")), "\n".join([
            "reader 2", "z 0 = 13", "z 1 = 16", "s 0 = 3 + 4 0.0 + 4 0.1", "s 1 = 16 0.1",
        ]))
        self.assertEqual(numbered_reader(CHAINS, printer, None), numbered_reader(letters="ab", printer=printer, wood=CHAINS))

    def test_two_parts(self):
        printer = ("a", (1,), ((("a",),), ((),), (((1, 0), "a", (0, 0)),)))
        self.assertEqual(show_reader(FORKS, numbered_reader(FORKS, printer)), "\n".join([
            "reader 2", "a 0 = 1", "a 1 = 2", "b 0 = none", "b 1 = 1", "f 0 = 1 0.0 + 1 0.1 + 2 0.1 1.0", "f 1 = 2 0.1 1.1",
        ]))

    def test_two_text_boxes(self):
        printer = ("a", (2,), ((("a",), ("aa",)), (((0, 1),), ("a", (0, 0)))))
        # (0, 1), (0, 2), (1, 0), (1, 1), (1, 2), (2, 0), (2, 1), (2, 2)
        self.assertEqual(show_reader(CHAINS, numbered_reader(CHAINS, printer)), "\n".join([
            "reader 8", "z 0 = 3", "z 1 = 4", "z 2 = 1", "z 3 = 3", "z 4 = 4", "z 5 = 2", "z 6 = 6", "z 7 = 8",
            "s 0 = 1 0.2 + 1 0.5", "s 1 = 2 0.5", "s 2 = 1 0.0", "s 3 = 1 0.3 + 1 0.6", "s 4 = 2 0.6", "s 5 = 1 0.1",
            "s 6 = 1 0.4 + 1 0.7", "s 7 = 2 0.7",
        ]))

    def test_no_text_box(self):
        self.assertEqual(numbered_reader(CHAINS, ("a", (0,), ((), ()))), ((0,), ((), ())))
        self.assertEqual(numbered_reader((("p", ()),), ("a", (2,), ())), ((8,), ()))
        wood = (("p", (("a", ()), ("f", ("q", "p")))), ("q", (("b", ()), ("g", ("p",)))))
        printer = ("xy", (1, 0), ((("x",),), (("y", (1, 0)),), (), ()))
        self.assertEqual(show_reader(wood, numbered_reader(wood, printer)), "\n".join([
            "reader 2 0", "a 0 = 1", "a 1 = 3", "f 0 = 1 1.0 + 2 1.1", "f 1 = 3 1.1",
        ]))

    def test_rows_without_items(self):
        printer = ("a", (2,), (((), ()), ((), ((0, 0), (0, 1)))))
        self.assertEqual(show_reader(CHAINS, numbered_reader(CHAINS, printer)), "\n".join([
            "reader 8", "z 0 = none", "z 1 = 1", "z 2 = none", "z 3 = none", "z 4 = none", "z 5 = 1", "z 6 = none", "z 7 = 1",
            "s 0 = 1 0.0 + 1 0.4", "s 1 = 1 0.7", "s 2 = none", "s 3 = none", "s 4 = none", "s 5 = 1", "s 6 = 1 0.0 + 1 0.4",
            "s 7 = 1 0.7",
        ]))

    def test_some_printers(self):
        source = chance(272)
        for turn in range(120):
            wood = source.choice((WOOD, BARREN, FORKS, some_wood(source)))
            counts = [source.randrange(3) for kind in wood]
            letters = source.choice(("a", "ab", "#~c", "abcdefghi"))
            printer = some_printer(source, wood, counts, letters)
            more = "".join(source.sample(letters + "XYZ"[:9 - len(letters)], min(9, len(letters) + 3)))
            own = numbered_reader(wood, printer)
            self.assertEqual(own, numbered_by_hand(wood, printer, letters))
            self.assertEqual(numbered_reader(wood, printer, more), numbered_by_hand(wood, printer, more))
            if max(counts) < 2:
                self.assertIs(look_reader(wood, own), True)
            for nested, tree in some_trees(turn, 4, wood, 4):
                texts = printed_at(wood, printer, tree)
                for signs, reader in ((letters, own), (more, numbered_reader(wood, printer, more))):
                    expected = [(product_at(signs, texts, choice), 1) for choice in choices_of(len(texts))]
                    self.assertEqual(boxes_at(wood, reader, tree), tuple(expected))

    def test_longest_rules(self):
        # eight items in a rule, texts of eight signs, two parts of two text boxes each
        printer = ("abcdefghi", (2,), (
            (("abcdefgh", "i"), ("hgfedcba",)), ((), ("iiiiiiii",) * 8),
            (((0, 0), "abcdefgh", (1, 1), "a", "b", "iiiiiiii", (0, 1), "c"), ((1, 0), "hhhhhhhh", "g", "hh", "a", "b", "c", "d")),
        ))
        self.assertIs(look_printer(FORKS, printer), True)
        reader = numbered_reader(FORKS, printer)
        self.assertEqual(reader, numbered_by_hand(FORKS, printer, "abcdefghi"))
        source = chance(273)
        tree = great_tree(source, FORKS, 0, rows=12, most=40)
        texts = printed_at(FORKS, printer, tree)
        expected = [(product_at("abcdefghi", texts, choice), 1) for choice in choices_of(2)]
        self.assertEqual(boxes_at(FORKS, reader, tree), tuple(expected))

    def test_sayings_and_papers_of_numbered_readers(self):
        # all signs alike: the width is one more than the worth, by the letters' own base
        printer = ("a", (1,), ((("a",),), (("a", (0, 0)),)))
        reader = numbered_reader(CHAINS, printer)
        self.assertEqual([str(poly) for poly in sayings_of(CHAINS, reader)[0]], ["-1 + -1 x0 + 1 x1"])
        self.assertIs(paper_holds(CHAINS, reader, paper_for(CHAINS, reader, 2)), True)
        # a printer that prints a part's texts twice over: one text box beside the other
        both = ("ab", (2,), ((("a",), ("a",)), (("b", (0, 0)), ("b", (0, 1)))))
        twins = numbered_reader(CHAINS, both)
        sayings = sayings_of(CHAINS, twins)[0]
        self.assertIn("-1 x0 + 1 x2", [str(poly) for poly in sayings])
        self.assertIs(paper_holds(CHAINS, twins, paper_for(CHAINS, twins)), True)
        for steps in range(12):
            boxes = read_whole(CHAINS, twins, chain(steps))
            self.assertEqual({worth_at(poly, boxes) for poly in sayings}, {0})

    def test_nothing_is_changed_and_the_same_is_told(self):
        printer = ("ab", (2,), ((("a",), ("a",)), (("b", (0, 0)), ("b", (0, 1)))))
        first = numbered_reader(CHAINS, printer)
        numbered_reader(CHAINS, printer, "ba")
        self.assertEqual(numbered_reader(CHAINS, printer), first)
        self.assertEqual(printer, ("ab", (2,), ((("a",), ("a",)), (("b", (0, 0)), ("b", (0, 1))))))


class TestPrintAlike(unittest.TestCase):
    def look(self, wood, one, other, kind, box=0, its=0, cap=150):
        """Holds an answer against the point's words; tells it."""
        answer = print_alike(wood, one, other, kind, box, its)
        below = height_told(self, wood, kind, answer)
        for tree in answer[1:]:
            self.assertNotEqual(printed_at(wood, one, tree)[box], printed_at(wood, other, tree)[its])
        nothing = ((0,) * len(wood), ((),) * len(maker_rows(wood)))
        for height, nested, boxes in all_trees(wood, nothing, cap)[1][kind]:
            if below is None or height < below:
                self.assertEqual(printed(wood, one, nested)[box], printed(wood, other, nested)[its])
        turned = print_alike(wood, other, one, kind, its, box)
        self.assertEqual([turned[0]] + [height_of(tree) for tree in turned[1:]], [answer[0]] + [below] * len(answer[1:]))
        return answer

    def test_alike(self):
        # a sign ahead or behind, where all signs are alike; texts split otherwise
        ahead = ("a", (1,), (((),), (("a", (0, 0)),)))
        behind = ("a", (1,), (((),), (((0, 0), "a"),)))
        self.assertEqual(self.look(CHAINS, ahead, behind, 0), ("alike",))
        split = ("ab", (1,), ((("ab", "b"),), (("a", "b", (0, 0), "ba"),)))
        other = ("ab", (1,), ((("a", "bb"),), (("ab", (0, 0), "b", "a"),)))
        self.assertEqual(self.look(CHAINS, split, other, 0), ("alike",))
        # abab..a: told from the left and from the right
        left = ("ab", (1,), ((("a",),), (("ab", (0, 0)),)))
        right = ("ab", (1,), ((("a",),), (((0, 0), "ba"),)))
        self.assertEqual(self.look(CHAINS, left, right, 0), ("alike",))

    def test_a_tree(self):
        left = ("ab", (1,), ((("a",),), (("ab", (0, 0)),)))
        right = ("ab", (1,), ((("a",),), (((0, 0), "ab"),)))
        self.assertEqual(self.look(CHAINS, left, right, 0), ("tree", chain(1)))
        self.assertEqual(self.look(CHAINS, left, ("ab", (1,), ((("b",),), (("ab", (0, 0)),))), 0), ("tree", chain(0)))
        # the same until both parts differ
        one = ("ab", (1,), ((("a",),), (("a",),), (((0, 0), (1, 0)),)))
        other = ("ab", (1,), ((("a",),), (("a",),), (((1, 0), (0, 0)),)))
        self.assertEqual(self.look(FORKS, one, other, 0), ("alike",))
        one, other = [("ab", (1,), ((("a",),), (("b",),), printer[2][2])) for printer in (one, other)]
        self.assertEqual(height_of(self.look(FORKS, one, other, 0)[1]), 2)
        # two text boxes that change places: unlike from two steps on
        swapped = ("ab", (2,), ((("a",), ("a",)), (((0, 1),), ("b", (0, 0)))))
        always = ("ab", (1,), ((("a",),), (((0, 0),),)))
        self.assertEqual(self.look(CHAINS, swapped, always, 0), ("tree", chain(2)))
        self.assertEqual(self.look(CHAINS, swapped, always, 0, 1), ("tree", chain(1)))

    def test_letters_of_both(self):
        rules = ((("a",),), (("b", (0, 0)),))
        for letters, its in (("ab", "ba"), ("ab", "abc"), ("cab", "ab"), ("ab", "bxyza"), ("abcd", "efgab"), ("ba~!#", "ab$&")):
            self.assertEqual(self.look(CHAINS, (letters, (1,), rules), (its, (1,), rules), 0), ("alike",))
        # the same numbers, other letters
        for one, other in ((("ab", rules), ("cd", ((("c",),), (("d", (0, 0)),)))), (("ab", rules), ("ba", ((("b",),), (("a", (0, 0)),))))):
            self.assertEqual(self.look(CHAINS, (one[0], (1,), one[1]), (other[0], (1,), other[1]), 0), ("tree", chain(0)))
        self.assertEqual(self.look(CHAINS, ("ab", (1,), rules), ("ac", (1,), ((("a",),), (("c", (0, 0)),))), 0), ("tree", chain(1)))
        # nothing printed by any letters
        empty = (((),), (((0, 0),),))
        self.assertEqual(self.look(CHAINS, ("abcd", (1,), empty), ("efghi", (1,), empty), 0), ("alike",))

    def test_defaults_and_names(self):
        two = ("ab", (2,), ((("a",), ("b",)), (((0, 0),), ((0, 1),))))
        one = ("ab", (1,), ((("b",),), (((0, 0),),)))
        self.assertEqual(print_alike(CHAINS, two, one, 0), ("tree", chain(0)))
        self.assertEqual(print_alike(CHAINS, two, one, 0, 1), ("alike",))
        self.assertEqual(print_alike(CHAINS, one, two, 0, its=1), ("alike",))
        self.assertEqual(print_alike(CHAINS, one, two, 0), ("tree", chain(0)))
        self.assertEqual(print_alike(its=0, box=1, kind=0, other=one, one=two, wood=CHAINS), ("alike",))

    def test_of_each_kind(self):
        wood = (("p", (("a", ()), ("f", ("p", "q")))), ("q", (("b", ()), ("g", ("q", "p")))), ("void", ()), ("deep", (("d", ("deep",)),)))
        one = ("xy", (1, 1, 0, 0), ((("x",),), (("x", (0, 0), (1, 0)),), (("y",),), (((0, 0), (1, 0), "x"),), ()))
        other = ("xy", (1, 1, 0, 0), ((("x",),), (("x", (0, 0), (1, 0)),), (("y",),), (((0, 0), "x", (1, 0)),), ()))
        self.assertEqual(self.look(wood, one, other, 1), ("tree", (("b", ()), ("a", ()), ("f", (1, 0)), ("g", (0, 2)))))
        self.assertEqual(height_of(self.look(wood, one, other, 0)[1]), 4)
        # of kinds without trees all texts are alike
        hollow = ("xy", (0, 0, 1, 1), ((), (), (), (), (("x",),)))
        empty = ("xy", (0, 0, 1, 1), ((), (), (), (), ((),)))
        self.assertEqual(self.look(wood, hollow, empty, 3), ("alike",))
        self.assertEqual(self.look(wood, hollow, empty, 2), ("alike",))

    def test_some_printers(self):
        source = chance(274)
        seen = {"alike": 0, "tree": 0}
        heights = set()
        woods = (CHAINS, FORKS, (("p", (("a", ()), ("f", ("p", "q")))), ("q", (("b", ("p",)), ("g", ("q", "p"))))))
        for turn in range(400):
            wood = source.choice(woods)
            counts = [source.choice((1, 1, 2)) for kind in wood] if len(wood) == 1 else [1 for kind in wood]
            kind = source.randrange(len(wood))
            letters = source.choice(("a", "a", "ab"))
            one = some_printer(source, wood, counts, letters, texts=1)
            if counts[kind] == 2 or source.randrange(2):
                other = some_printer(source, wood, [1] * len(wood), source.choice((letters, "ba")), texts=1)
            else:
                other = self.split(source, one)
            answer = self.look(wood, one, other, kind, source.randrange(counts[kind]), 0, cap=60)
            seen[answer[0]] += 1
            heights.update([height_of(tree) for tree in answer[1:]])
        self.assertGreater(min(seen.values()), 80)
        self.assertLessEqual({1, 2, 3}, heights)

    def split(self, source, printer):
        """The printer with its texts split, at times one of them moved, one sign alike put for another."""
        letters, counts, rules = printer
        told = []
        for rows in rules:
            own = []
            for row in rows:
                items = []
                for item in row:
                    items += list(item) if type(item) is str else [item]
                if len(items) > 1 and source.randrange(6) == 0:
                    items.insert(source.randrange(len(items)), items.pop())
                own.append(tuple(items))
            told.append(tuple(own))
        return ("".join(source.sample(letters, len(letters))), counts, tuple(told))

    def test_rooms_of_both(self):
        # eleven rooms: two text boxes beside one
        swapped = ("ab", (2,), ((("a",), ("b",)), (((0, 1),), ((0, 0),))))
        still = ("ab", (1,), ((("a",),), (((0, 0),),)))
        self.assertEqual(put_beside(CHAINS, numbered_reader(CHAINS, swapped), numbered_reader(CHAINS, still))[0], (10,))
        self.assertEqual(self.look(CHAINS, swapped, still, 0), ("tree", chain(1)))

    def test_a_width_is_told_by_a_worth(self):
        # of one letter the worth and the width tell the same: held against a saying told by hand
        printer = ("a", (1,), ((("aa",),), (("a", (0, 0), "aa"),)))
        poly = read_poly("1 + 1 x0 + -1 x1", 2)
        for steps in range(20):
            boxes = boxes_at(CHAINS, numbered_reader(CHAINS, printer), chain(steps))
            self.assertEqual(worth_at(poly, [Fraction(*number) for number in boxes]), 0)

    def test_nothing_is_changed_and_the_same_is_told(self):
        left = ("ab", (1,), ((("a",),), (("ab", (0, 0)),)))
        right = ("ba", (1,), ((("a",),), (((0, 0), "ab"),)))
        ahead = repr((left, right))
        first = [print_alike(CHAINS, left, right, 0), print_alike(CHAINS, left, left, 0)]
        print_alike(FORKS, *[("a", (1,), ((("a",),), ((),), (((0, 0),),)))] * 2, 0)
        self.assertEqual([print_alike(CHAINS, left, right, 0), print_alike(CHAINS, left, left, 0)], first)
        self.assertEqual(repr((left, right)), ahead)


if __name__ == "__main__":
    unittest.main()
