"""[29] [30] Turners looked at, and trees turned."""

import unittest

from boughkept.errors import NoTurner
from boughkept.trees import look_tree, plain_of, size_of, tree_kind
from boughkept.turners import look_turner, turned_tree
from boughkept.words import read_tree, show_tree
from helpers import (
    CHAINS, WOOD, chance, great_tree, maker_rows, nested_at, plain_rows, refusal, rows_of_size, some_trees,
    some_wood,
)
from turning import some_turner, turned, turners_between

FORKS = (("p", (("a", ()), ("b", ()), ("f", ("p", "p")), ("g", ("p", "q")))), ("q", (("c", ()), ("h", ("q", "p")))))
# a maker that is called as a part's row is
PARTS = (("p", (("part", ()), ("pair", ("p", "p")), ("one", ("p",)))), ("q", (("rest", ("q", "p")), ("end", ()))))
# f turns its parts around, g leaves the first one out, h stands deeper
TURNER = ((0, 1), (
    (("part", ()),),
    (("part", ()), ("one", (0,))),
    (("part", 1), ("part", 0), ("pair", (0, 1))),
    (("part", ()), ("part", ()), ("pair", (1, 0))),
    (("end", ()),),
    (("part", 0), ("part", 1), ("one", (1,)), ("rest", (0, 2)), ("part", ()), ("rest", (3, 4))),
))


def amiss(first, second, turner):
    """All that is amiss with a turner, as (word, maker), in the order in which it is looked for."""
    kinds, patterns = turner
    if len(kinds) != len(first) or not set(kinds) <= set(range(len(second))):
        return [("kinds", "")]
    makers, theirs = maker_rows(first), {maker: (kind, parts) for maker, kind, parts in maker_rows(second)}
    if len(patterns) != len(makers):
        return [("patterns", "")]
    told = []
    for (maker, kind, parts), rows in zip(makers, patterns):
        words = row_words(kinds, parts, theirs, rows)
        if words == [] and kind_in(rows, len(rows) - 1, kinds, parts, theirs) != kinds[kind]:
            words = ["whole"]
        told += [(word, maker) for word in words]
    return told


def row_words(kinds, parts, theirs, rows):
    """What is amiss with a pattern's rows, all but its whole's kind."""
    if not rows:
        return ["rows"]
    for at, (name, own) in enumerate(rows):
        ahead = [number for its, numbers in rows[:at] if type(numbers) is tuple for number in numbers]
        if type(own) is int:
            if own not in range(len(parts)) or (name, own) in rows[:at]:
                return ["part"]
        elif name not in theirs:
            return ["maker"]
        elif len(own) != len(theirs[name][1]):
            return ["count"]
        elif not set(own) <= set(range(at)) or set(own) & set(ahead) or len(set(own)) < len(own):
            return ["number"]
        elif tuple([kind_in(rows, number, kinds, parts, theirs) for number in own]) != theirs[name][1]:
            return ["kind"]
    used = [number for its, numbers in rows if type(numbers) is tuple for number in numbers]
    return ["spare"] if set(range(len(rows) - 1)) - set(used) else []


def kind_in(rows, at, kinds, parts, theirs):
    name, own = rows[at]
    return kinds[parts[own]] if type(own) is int else theirs[name][0]


def with_pattern(turner, at, rows):
    kinds, patterns = turner
    return (kinds, patterns[:at] + (tuple(rows),) + patterns[at + 1:])


class TestLookTurner(unittest.TestCase):
    def look(self, first, second, turner):
        """What look_turner tells, held against all that is amiss."""
        due = amiss(first, second, turner)
        if not due:
            self.assertIs(look_turner(first, second, turner), True)
            return None
        refused = refusal(NoTurner, look_turner, first, second, turner)
        self.assertEqual((refused.word, refused.maker), due[0], turner)
        return due[0]

    def pattern(self, at, *rows):
        """What is told where the maker of that number has these rows."""
        refused = self.look(FORKS, PARTS, with_pattern(TURNER, at, rows))
        if refused is not None:
            self.assertEqual(refused[1], "abfgch"[at])
            return refused[0]
        return None

    def test_let_by(self):
        self.assertIs(look_turner(FORKS, PARTS, TURNER), True)
        self.assertIs(look_turner(turner=TURNER, second=PARTS, first=FORKS), True)
        self.assertIs(look_turner((("p", ()),), CHAINS, ((0,), ())), True)
        # to itself, each maker by its own
        own = tuple([tuple([("part", at) for at in range(len(parts))]) + ((maker, tuple(range(len(parts)))),)
                     for maker, kind, parts in maker_rows(WOOD)])
        self.assertIs(look_turner(WOOD, WOOD, ((0, 1, 2, 3), own)), True)

    def test_kinds(self):
        for kinds in ((), (0,), (0, 0, 0), (0, 2), (-1, 0), (0, -1), (10 ** 30, 0)):
            self.assertEqual(self.look(FORKS, PARTS, (kinds, TURNER[1])), ("kinds", ""))
            self.assertEqual(self.look(FORKS, PARTS, (kinds, ())), ("kinds", ""))
        self.assertEqual(self.look(FORKS, CHAINS, ((0, 1), TURNER[1])), ("kinds", ""))

    def test_patterns(self):
        for patterns in ((), TURNER[1][:5], TURNER[1] + TURNER[1][:1], ((),) * 7):
            self.assertEqual(self.look(FORKS, PARTS, (TURNER[0], patterns)), ("patterns", ""))

    def test_rows(self):
        for at in range(6):
            self.assertEqual(self.pattern(at), "rows")

    def test_part(self):
        for part in (-1, 2, 3, 10 ** 30, -10 ** 30):
            self.assertEqual(self.pattern(2, ("part", part)), "part")
            self.assertEqual(self.pattern(2, ("part", 0), ("part", part), ("pair", (0, 1))), "part")
        self.assertEqual(self.pattern(0, ("part", 0)), "part")
        self.assertEqual(self.pattern(2, ("part", 0), ("part", 0), ("pair", (0, 1))), "part")
        self.assertEqual(self.pattern(2, ("part", 1), ("one", (0,)), ("part", 1), ("pair", (1, 2))), "part")
        self.assertIsNone(self.pattern(2, ("part", 1)))
        self.assertIsNone(self.pattern(2, ("part", 1), ("one", (0,)), ("part", 0), ("pair", (1, 2))))

    def test_maker(self):
        for name in ("f", "a", "p", "", "pairs", "Pair", "kind"):
            for numbers in ((), (0,), (7, -1), (0, 0, 0)):
                self.assertEqual(self.pattern(0, (name, numbers)), "maker")
                self.assertEqual(self.pattern(1, ("part", ()), (name, numbers)), "maker")

    def test_count(self):
        for name, numbers in (
            ("part", (0,)), ("part", (0, 5)), ("pair", ()), ("pair", (0,)), ("pair", (0, 0, 0)), ("pair", (-1,)), ("one", ()),
            ("one", (0, 0)), ("end", (0,)), ("rest", (9,)),
        ):
            self.assertEqual(self.pattern(0, ("part", ()), (name, numbers)), "count")

    def test_number(self):
        for number in (1, 2, -1, -2, 10 ** 30):
            self.assertEqual(self.pattern(0, ("part", ()), ("one", (number,))), "number")
            self.assertEqual(self.pattern(0, ("part", ()), ("pair", (0, number))), "number")
        # twice as a part: in one row, in two
        self.assertEqual(self.pattern(0, ("part", ()), ("pair", (0, 0))), "number")
        self.assertEqual(self.pattern(0, ("part", ()), ("one", (0,)), ("one", (0,))), "number")
        self.assertEqual(self.pattern(0, ("part", ()), ("one", (0,)), ("pair", (1, 0))), "number")

    def test_kind(self):
        self.assertEqual(self.pattern(0, ("end", ()), ("one", (0,))), "kind")
        self.assertEqual(self.pattern(3, ("part", 1), ("one", (0,))), "kind")
        self.assertEqual(self.pattern(4, ("part", ()), ("end", ()), ("rest", (0, 1))), "kind")
        # a number of the row's, the last one, ahead of the kind of the first
        self.assertEqual(self.pattern(4, ("part", ()), ("end", ()), ("rest", (0, 2))), "number")
        self.assertEqual(self.pattern(4, ("part", ()), ("end", ()), ("rest", (0, 0))), "number")
        self.assertEqual(self.pattern(4, ("part", ()), ("end", ()), ("rest", (0, -1))), "number")
        self.assertIsNone(self.pattern(4, ("part", ()), ("end", ()), ("rest", (1, 0))))

    def test_kinds_of_parts_are_led(self):
        # both kinds led to the second one, in another order
        first = (("x", (("k", ("x", "y")),)), ("y", (("l", ()),)))
        self.assertIsNone(self.look(first, PARTS, ((1, 0), ((("part", 0), ("part", 1), ("rest", (0, 1))), (("part", ()),)))))
        self.assertEqual(
            self.look(first, PARTS, ((1, 0), ((("part", 0), ("part", 1), ("rest", (1, 0))), (("part", ()),)))), ("kind", "k"))
        self.assertEqual(self.look(first, PARTS, ((1, 0), ((("part", 1),), (("part", ()),)))), ("whole", "k"))
        self.assertIsNone(self.look(first, PARTS, ((1, 0), ((("part", 0),), (("part", ()),)))))
        self.assertIsNone(self.look(first, PARTS, ((1, 1), ((("part", 1),), (("end", ()),)))))

    def test_spare(self):
        self.assertEqual(self.pattern(0, ("part", ()), ("part", ())), "spare")
        self.assertEqual(self.pattern(2, ("part", 0), ("part", 1)), "spare")
        self.assertEqual(self.pattern(2, ("part", 0), ("part", ()), ("one", (0,))), "spare")
        # ahead of the whole's kind
        self.assertEqual(self.pattern(0, ("part", ()), ("end", ())), "spare")

    def test_whole(self):
        self.assertEqual(self.pattern(0, ("end", ())), "whole")
        self.assertEqual(self.pattern(3, ("part", 1)), "whole")
        self.assertEqual(self.pattern(4, ("part", ())), "whole")
        self.assertEqual(self.pattern(5, ("part", 1), ("one", (0,))), "whole")
        self.assertIsNone(self.pattern(5, ("part", 0)))

    def test_a_maker_called_part(self):
        self.assertIsNone(self.pattern(2, ("part", ()), ("part", 0), ("pair", (0, 1))))
        self.assertEqual(self.pattern(0, ("part", (0,))), "count")
        self.assertEqual(self.look(CHAINS, CHAINS, ((0,), ((("part", ()),), (("part", 0),)))), ("maker", "z"))

    def test_the_first_of_several(self):
        self.assertEqual(self.pattern(2, ("part", 5), ("nix", ()), ("pair", (0, 9))), "part")
        self.assertEqual(self.pattern(2, ("nix", ()), ("part", 5)), "maker")
        self.assertEqual(self.pattern(2, ("pair", (7,)), ("part", 5)), "count")
        self.assertEqual(self.pattern(2, ("end", ()), ("one", (0,)), ("one", (0,))), "kind")
        self.assertEqual(self.pattern(2, ("one", (0,)), ("end", ())), "number")
        both = with_pattern(with_pattern(TURNER, 4, ()), 1, (("end", ()),))
        self.assertEqual(self.look(FORKS, PARTS, both), ("whole", "b"))

    def test_some_turners(self):
        source = chance(291)
        words = set()
        for turn in range(150):
            first = source.choice((FORKS, CHAINS, WOOD, some_wood(source)))
            second = source.choice((PARTS, FORKS, CHAINS, some_wood(source)))
            turner = some_turner(source, first, second)
            if turner is not None:
                self.assertIsNone(self.look(first, second, turner))
                for go in range(12):
                    refused = self.look(first, second, self.otherwise(source, second, self.otherwise(source, second, turner)))
                    words.add(refused and refused[0])
        self.assertEqual(words, {None, "kinds", "patterns", "rows", "part", "maker", "count", "number", "kind", "spare", "whole"})

    def otherwise(self, source, second, turner):
        """The turner with something else in it."""
        kinds, patterns = turner
        deed = source.randrange(12)
        at = source.randrange(len(kinds))
        if deed == 0:
            return (kinds[:at] + (source.randrange(-1, len(second) + 1),) + kinds[at + 1:], patterns)
        if deed == 1:
            return (kinds, patterns[:-1] if source.randrange(2) else patterns + ((),)) if source.randrange(4) == 0 else turner
        if not patterns:
            return turner
        at = source.randrange(len(patterns))
        rows = list(patterns[at])
        names = [maker for maker, kind, parts in maker_rows(second)] + ["nix"]
        if deed < 6 and rows:
            row = source.randrange(len(rows))
            name, own = rows[row]
            if type(own) is tuple and own:
                place = source.randrange(len(own))
                rows[row] = (name, own[:place] + (source.randrange(-1, len(rows) + 1),) + own[place + source.randrange(2):])
            else:
                rows[row] = ("part", source.randrange(-1, 3))
        elif deed < 9 and rows:
            del rows[source.randrange(len(rows))]
        elif deed < 11:
            rows.append(source.choice((("part", source.randrange(3)), (source.choice(names), tuple(range(source.randrange(3)))))))
        elif rows:
            row = source.randrange(len(rows))
            rows[row] = (source.choice(names), rows[row][1] if type(rows[row][1]) is tuple else ())
        return with_pattern(turner, at, rows)

    def test_nothing_is_changed(self):
        ahead = repr((FORKS, PARTS, TURNER))
        for turn in range(2):
            self.assertIs(look_turner(FORKS, PARTS, TURNER), True)
            refusal(NoTurner, look_turner, FORKS, CHAINS, TURNER)
        self.assertEqual(repr((FORKS, PARTS, TURNER)), ahead)


class TestTurnedTree(unittest.TestCase):
    def test_told_ones(self):
        for text, expected in (
            ("a", "part"), ("b", "one(part)"), ("f(a,b)", "pair(one(part),part)"), ("g(b,c)", "pair(part,part)"), ("c", "end"),
            ("h(c,b)", "rest(rest(end,one(one(part))),part)"), ("f(f(b,a),g(f(a,a),h(c,a)))", "pair(pair(part,part),pair(part,one(part)))"),
        ):
            told = turned_tree(FORKS, PARTS, TURNER, read_tree(FORKS, text))
            self.assertEqual((show_tree(told), told), (expected, read_tree(PARTS, expected)))
        self.assertEqual(turned_tree(tree=(("c", ()),), turner=TURNER, second=PARTS, first=FORKS), (("end", ()),))

    def test_a_part_as_the_whole(self):
        # every step is left out
        turner = ((0,), ((("z", ()), ("s", (0,))), (("part", 0),)))
        tree = (("z", ()),) + tuple([("s", (at,)) for at in range(59)])
        self.assertEqual(turned_tree(CHAINS, CHAINS, turner, tree), (("z", ()), ("s", (0,))))

    def test_rows_that_are_parts_of_many_or_of_none(self):
        tree = (("c", ()), ("a", ()), ("f", (1, 1)), ("h", (0, 2)), ("b", ()), ("f", (2, 2)))
        self.assertEqual(turned_tree(FORKS, PARTS, TURNER, tree), (("part", ()), ("pair", (0, 0)), ("pair", (1, 1))))
        # alike rows of a pattern and of the turned parts are one
        self.assertEqual(turned_tree(FORKS, PARTS, TURNER, (("a", ()), ("b", ()), ("f", (0, 1)))),
                         (("part", ()), ("one", (0,)), ("pair", (1, 0))))

    def test_rows_stand_as_one_is_done_with_them(self):
        # the pattern's rows stand in another order than they are done
        turner = ((0, 0), ((("part", ()),), (("part", ()), ("one", (0,))), (("part", 0), ("part", 1), ("pair", (1, 0))),
                           (("part", 0),), (("part", ()),), (("part", 1), ("part", 0), ("one", (0,)), ("pair", (1, 2)))))
        self.assertIs(look_turner(FORKS, PARTS, turner), True)
        tree = read_tree(FORKS, "f(f(a,b),b)")
        self.assertEqual(show_tree(turned_tree(FORKS, PARTS, turner, tree)), "pair(one(part),pair(one(part),part))")
        self.assertEqual(turned_tree(FORKS, PARTS, turner, tree), (("part", ()), ("one", (0,)), ("pair", (1, 0)), ("pair", (1, 2))))

    def test_some_turners(self):
        source = chance(292)
        done = 0
        for turn, first, second, turner in turners_between(source, 120, (FORKS,), (PARTS, FORKS)):
            for nested, tree in some_trees(turn, 6, first, 4):
                told = turned_tree(first, second, turner, tree)
                self.assertEqual(told, plain_rows(turned(first, turner, nested)))
                self.assertIs(look_tree(second, told), True)
                self.assertEqual((plain_of(told), tree_kind(second, told)), (told, turner[0][tree_kind(first, tree)]))
                done += 1
        self.assertGreater(done, 400)

    def test_great_trees(self):
        source = chance(293)
        for turn in range(8):
            tree = great_tree(source, FORKS, turn % 2)
            told = turned_tree(FORKS, PARTS, TURNER, tree)
            self.assertEqual(told, plain_rows(turned(FORKS, TURNER, nested_at(tree))))
        # each maker by eight rows: sizes come to eight times as much
        chains = tuple([("s", (at,)) for at in range(7)])
        turner = ((0, 0, 0, 0), tuple([
            ((("z", ()),) if not parts else (("part", 0),)) + chains for maker, kind, parts in maker_rows(WOOD)
        ]))
        self.assertIs(look_turner(WOOD, CHAINS, turner), True)
        tree = tuple([("zero", ())] + [("neg", (at,)) for at in range(59)])
        self.assertEqual(size_of(turned_tree(WOOD, CHAINS, turner, tree)), 8 + 59 * 7)
        self.assertEqual(size_of(turned_tree(WOOD, CHAINS, turner, rows_of_size(2000))) % 7, 1)

    def test_nothing_is_changed_and_the_same_is_told(self):
        tree = read_tree(FORKS, "f(f(b,a),g(f(a,a),h(c,a)))")
        ahead = repr((TURNER, tree))
        first = turned_tree(FORKS, PARTS, TURNER, tree)
        turned_tree(FORKS, PARTS, TURNER, (("c", ()),))
        self.assertEqual(turned_tree(FORKS, PARTS, TURNER, tree), first)
        self.assertEqual(repr((TURNER, tree)), ahead)


if __name__ == "__main__":
    unittest.main()
