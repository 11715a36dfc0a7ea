"""[15] The machine: fed name by name, taken back, asked."""

import unittest

from boughkept.codes import code_of
from boughkept.errors import NoFit
from boughkept.machine import Machine
from boughkept.readers import boxes_at
from boughkept.readertexts import read_reader
from boughkept.trees import height_of, tree_kind
from boughkept.woods import makers_of
from boughkept.words import word_of
from helpers import (
    CHAIN_READER, CHAINS, READER, WOOD, chance, great_tree, maker_rows, pair, read_whole, refusal, rows_of_size,
    some_reader, some_trees, some_wood,
)

ONE = (0, ((1, 1), (1, 1)))
ZERO = (0, ((0, 1), (1, 1)))
NIL = (1, ((0, 1),))


def all_of(machine):
    """All that a machine tells of itself."""
    return (machine.pile(), machine.highest(), machine.deeds_done(), len(machine), str(machine))


def fed(names, wood=WOOD, reader=READER):
    machine = Machine(wood, reader)
    machine.feed_all(names.split())
    return machine


class TestFed(unittest.TestCase):
    def test_at_first(self):
        machine = Machine(WOOD, READER)
        self.assertEqual(all_of(machine), ([], 0, 0, 0, ""))
        self.assertIs(machine.back(), False)
        self.assertEqual(all_of(Machine(reader=READER, wood=WOOD)), ([], 0, 0, 0, ""))

    def test_name_by_name(self):
        machine = Machine(WOOD, READER)
        for name, pile, highest, deeds in (
            ("one", [ONE], 1, 2),
            ("one", [ONE, ONE], 2, 4),
            ("neg", [ONE, (0, ((-1, 1), (2, 1)))], 2, 12),
            ("nil", [ONE, (0, ((-1, 1), (2, 1))), NIL], 3, 13),
            ("list", [ONE, (1, ((-1, 1),))], 3, 20),
            ("rest", [ONE, (1, ((2, 3),))], 3, 23),
            ("list", [(1, ((5, 3),))], 3, 30),
            ("zero", [(1, ((5, 3),)), ZERO], 3, 32),
            ("part", [(3, ((0, 1), (8, 3), (7, 2)))], 3, 59),
        ):
            self.assertIsNone(machine.feed(name))
            self.assertEqual((machine.pile(), machine.highest(), machine.deeds_done()), (pile, highest, deeds))
            self.assertEqual(len(machine), len(pile))

    def test_the_topmost_is_the_last_part(self):
        wood = (("p", (("a", ()), ("b", ()), ("f", ("p", "p")))),)
        reader = read_reader(wood, "reader 1\na 0 = 2\nb 0 = 5\nf 0 = 10 0.0 + 1 1.0")
        self.assertEqual(fed("a b f", wood, reader).pile(), [(0, ((25, 1),))])
        self.assertEqual(fed("b a f", wood, reader).pile(), [(0, ((52, 1),))])

    def test_a_word(self):
        machine = Machine(WOOD, READER)
        self.assertIsNone(machine.feed_all(("one", "one", "add")))
        self.assertIsNone(machine.feed_all(()))
        self.assertIsNone(machine.feed_all(word=("nil",)))
        self.assertIsNone(machine.feed(maker="zero"))
        self.assertEqual(machine.pile(), [(0, ((2, 1), (3, 1))), NIL, ZERO])

    def test_text(self):
        self.assertEqual(str(fed("one")), "num(1 1)")
        self.assertEqual(str(fed("one one nil list rest")), "num(1 1) list(-2/3)")
        self.assertEqual(str(fed("nil sum nil zero part")), "num(0 1/2) some(0 1 7/2)")
        bare = ((0, 1, 0, 0), tuple([((),) if kind == 1 else () for maker, kind, parts in maker_rows(WOOD)]))
        self.assertEqual(str(fed("one", reader=bare)), "num()")
        self.assertEqual(str(fed("one nil zero one", reader=bare)), "num() list(0) num() num()")

    def test_texts_of_great_numbers(self):
        machine = Machine(CHAINS, CHAIN_READER)
        machine.feed_all(("z",) + ("s",) * 1999)
        self.assertEqual(str(machine), f"nat(1999 {2 ** 1999}/{3 ** 1999})")

    def test_a_machine_of_no_makers(self):
        machine = Machine((("p", ()),), ((2,), ()))
        self.assertEqual(refusal(NoFit, machine.feed, "p").at, 0)
        self.assertEqual(all_of(machine), ([], 0, 0, 0, ""))


class TestRefused(unittest.TestCase):
    def refused(self, names, name, at):
        machine = fed(names)
        ahead = all_of(machine)
        for turn in range(2):
            self.assertEqual(refusal(NoFit, machine.feed, name).at, at)
            self.assertEqual(all_of(machine), ahead)

    def test_names_of_no_maker(self):
        for name in ("", "num", "none", "kind", "Zero", "zero ", "void"):
            self.refused("", name, 0)
            self.refused("one nil list one", name, 4)

    def test_too_few(self):
        self.refused("", "neg", 0)
        self.refused("", "add", 0)
        self.refused("one", "add", 1)
        self.refused("one one add", "add", 3)
        self.refused("nil", "list", 1)

    def test_other_kinds(self):
        self.refused("nil", "neg", 1)
        self.refused("one", "rest", 1)
        self.refused("one nil", "add", 2)
        self.refused("nil one", "add", 2)
        self.refused("nil one", "list", 2)
        self.refused("one nil", "part", 2)
        self.refused("one one", "lift", 2)
        self.refused("one nil one", "list", 3)

    def test_of_a_word_what_was_read_ahead_stays(self):
        machine = fed("one")
        self.assertEqual(refusal(NoFit, machine.feed_all, ("one", "nil", "add", "zero", "none")).at, 3)
        self.assertEqual(all_of(machine), all_of(fed("one one nil")))
        self.assertEqual(refusal(NoFit, machine.feed_all, ("add",)).at, 3)
        machine.feed("list")
        self.assertEqual(all_of(machine), all_of(fed("one one nil list")))

    def test_what_was_taken_back_was_not_read(self):
        machine = fed("one one add")
        machine.back()
        machine.back()
        self.assertEqual(refusal(NoFit, machine.feed, "add").at, 1)
        machine.back()
        self.assertEqual(refusal(NoFit, machine.feed, "neg").at, 0)

    def test_nothing_stays_to_take_back_of_what_was_refused(self):
        machine = fed("one")
        refusal(NoFit, machine.feed, "add")
        self.assertIs(machine.back(), True)
        self.assertIs(machine.back(), False)


class TestTakenBack(unittest.TestCase):
    def test_one_by_one(self):
        names = "one one neg nil list rest list zero part".split()
        machine = Machine(WOOD, READER)
        ways = []
        for name in names:
            ways.append(all_of(machine))
            machine.feed(name)
        for way in reversed(ways):
            self.assertIs(machine.back(), True)
            self.assertEqual(all_of(machine), way)
        for turn in range(2):
            self.assertIs(machine.back(), False)
            self.assertEqual(all_of(machine), ([], 0, 0, 0, ""))

    def test_and_read_again(self):
        machine = fed("one one nil list")
        machine.back()
        machine.back()
        machine.feed_all(("zero", "add", "neg"))
        self.assertEqual(all_of(machine), all_of(fed("one one zero add neg")))

    def test_the_most_it_was_high(self):
        machine = fed("one one one")
        self.assertEqual(machine.highest(), 3)
        machine.feed("add")
        self.assertEqual(machine.highest(), 3)
        machine.back()
        machine.back()
        self.assertEqual(machine.highest(), 2)

    def test_by_chance(self):
        source = chance(131)
        names = makers_of(WOOD) + ["none"]
        for turn in range(60):
            machine, read = Machine(WOOD, READER), []
            for step in range(40):
                if source.randrange(4) == 0:
                    self.assertIs(machine.back(), bool(read))
                    read = read[:-1]
                else:
                    name = source.choice(names)
                    try:
                        machine.feed(name)
                        read.append(name)
                    except NoFit as refused:
                        self.assertEqual(refused.at, len(read))
                self.assertEqual(all_of(machine), all_of(fed(" ".join(read))))
                self.assertEqual(machine, fed(" ".join(read)))


class TestWordsOfTrees(unittest.TestCase):
    def check(self, wood, reader, tree):
        machine = Machine(wood, reader)
        word = word_of(tree)
        machine.feed_all(word)
        self.assertEqual(machine.pile(), [(tree_kind(wood, tree), boxes_at(wood, reader, tree))])
        self.assertEqual(machine.pile()[0][1], tuple([pair(number) for number in read_whole(wood, reader, tree)]))
        self.assertEqual(len(machine), 1)
        self.assertLessEqual(machine.highest(), height_of(tree))
        many = dict(zip(makers_of(wood), [len(deeds) for deeds in code_of(wood, reader)]))
        self.assertEqual(machine.deeds_done(), sum([many[name] for name in word]))
        return machine, word

    def test_some_of_each(self):
        source = chance(132)
        for nested, rows in some_trees(133, 120):
            reader = some_reader(source, WOOD, [source.randrange(5) for kind in WOOD], most=6)
            machine, word = self.check(WOOD, reader, rows)
            for name in word:
                self.assertIs(machine.back(), True)
            self.assertIs(machine.back(), False)
            self.assertEqual(all_of(machine), ([], 0, 0, 0, ""))

    def test_some_woods(self):
        source = chance(134)
        for turn in range(60):
            wood = some_wood(source)
            tree = great_tree(source, wood, rows=12, most=300)
            self.check(wood, some_reader(source, wood, [source.randrange(4) for kind in wood]), tree)

    def test_great_ones(self):
        source = chance(135)
        for turn in range(6):
            reader = some_reader(source, WOOD, (2, 1, 1, 2), most=2)
            self.check(WOOD, reader, great_tree(source, WOOD))
        self.check(WOOD, READER, rows_of_size(2000))
        chain = (("z", ()),) + tuple([("s", (at,)) for at in range(1999)])
        machine, word = self.check(CHAINS, CHAIN_READER, chain)
        self.assertEqual(machine.highest(), 1)
        for name in word:
            self.assertIs(machine.back(), True)
        self.assertIs(machine.back(), False)

    def test_as_high_as_the_tree(self):
        # the right parts go on: all that stands to the left waits on the pile
        right = (("one", ()), ("nil", ())) + tuple([("list", (0, at)) for at in range(1, 40)])
        machine, word = self.check(WOOD, READER, right)
        self.assertEqual(machine.highest(), height_of(right))
        left = (("one", ()),) + tuple([("add", (at, 0)) for at in range(40)])
        machine, word = self.check(WOOD, READER, left)
        self.assertEqual(machine.highest(), 2)


class TestHeldBeside(unittest.TestCase):
    def test_alike(self):
        self.assertTrue(fed("one one add") == fed("one one add"))
        self.assertTrue(Machine(WOOD, READER) == Machine(CHAINS, CHAIN_READER))
        # by other names, the pile alike
        self.assertTrue(fed("one zero add zero add") == fed("one zero zero add add"))
        taken_back = fed("one one one")
        taken_back.back()
        self.assertTrue(taken_back == fed("one one"))
        # another wood, another reader: kinds' numbers and fractions alike
        self.assertTrue(fed("z s", CHAINS, CHAIN_READER) == fed("h", (("k", (("h", ()),)),), ((2,), (
            ((((1, 1), ()),), (((2, 3), ()),)),
        ))))

    def test_unlike(self):
        for one, other in (("", "one"), ("one", "zero"), ("one", "one one"), ("one nil", "nil one"), ("one one", "one")):
            self.assertFalse(fed(one) == fed(other))
            self.assertTrue(fed(one) != fed(other))
        bare = ((0, 0, 0, 0), ((),) * 10)
        self.assertFalse(fed("one", reader=bare) == fed("nil", reader=bare))
        self.assertFalse(fed("one") == [ONE])
        self.assertFalse(Machine(WOOD, READER) == [])
        self.assertFalse(fed("one") == "num(1 1)")
        self.assertFalse(fed("one") == None)  # noqa: E711

    def test_kept_apart(self):
        one, other = Machine(WOOD, READER), Machine(WOOD, READER)
        one.feed_all(("one", "one"))
        other.feed("nil")
        self.assertEqual((one.pile(), other.pile()), ([ONE, ONE], [NIL]))
        one.feed("add")
        other.back()
        self.assertEqual((len(one), len(other)), (1, 0))
        self.assertEqual((one.highest(), other.highest(), one.deeds_done(), other.deeds_done()), (2, 0, 20, 0))

    def test_lists_told_are_new(self):
        machine = fed("one one")
        told = machine.pile()
        told.append(NIL)
        told[0] = None
        self.assertEqual(machine.pile(), [ONE, ONE])
        kept = machine.pile()
        machine.feed("add")
        machine.back()
        machine.back()
        self.assertEqual(kept, [ONE, ONE])
        self.assertEqual({type(thing) for thing in (kept[0], kept[0][1], kept[0][1][0])}, {tuple})

    def test_a_list_that_was_handed_in(self):
        word = ["one", "nil"]
        machine = Machine(WOOD, READER)
        machine.feed_all(word)
        word.append("list")
        self.assertEqual((word, machine.pile()), (["one", "nil", "list"], [ONE, NIL]))


if __name__ == "__main__":
    unittest.main()
