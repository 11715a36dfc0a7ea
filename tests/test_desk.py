"""[32] [33] The desk: rows told, their answers sign by sign, every refusal in its order."""

import unittest

from boughkept.answers import answered
from boughkept.desk import Desk
from boughkept.errors import NoBox, NoReader, NoRow, NotKept, NoText, NoWood, NoWord, TooLong, TooWide
from boughkept.least import least_reader
from boughkept.polytexts import read_poly
from boughkept.readertexts import read_reader, show_reader
from boughkept.sayings import sayings_of
from boughkept.woodtexts import read_wood, show_wood
from boughkept.words import read_tree, show_tree
from helpers import BARREN, READER_TEXT, WOOD, chance, one_sign_off, read_whole, refusal, some_trees, some_within

CHAIN_WOOD = "wood kind nat ; z ; s nat"
STEPS = "reader 1 ; z 0 = none ; s 0 = 1 + 1 0.0"
SQUARES = "reader 2 ; z 0 = none ; z 1 = none ; s 0 = 1 + 1 0.0 ; s 1 = 1 + 2 0.0 + 1 0.1"
EMPTY = "reader 0"


def chain_desk():
    desk = Desk()
    for row in (CHAIN_WOOD, "reader st " + STEPS, "reader sq " + SQUARES, "reader no " + EMPTY):
        desk.say(row)
    return desk


def in_row(text):
    return " ; ".join(text.split("\n"))


class TestDesk(unittest.TestCase):
    def refused(self, kind, desk, row, *fields):
        """Holds a refusal, and that nothing is changed by it."""
        ahead = self.kept(desk)
        refused = refusal(kind, desk.say, row)
        for name, expected in zip(fields[::2], fields[1::2]):
            self.assertEqual(getattr(refused, name), expected, row)
        self.assertEqual(self.kept(desk), ahead)

    def kept(self, desk):
        """All that a desk tells of what it keeps by short names."""
        told = []
        for row in ["show"] + [f"show {name}" for name in ("st", "sq", "no", "wood", "a", "b", "new", "great")]:
            try:
                told.append(desk.say(row))
            except NotKept as refused:
                told.append(refused.name)
        return told

    def test_wood(self):
        desk = Desk()
        self.assertEqual(desk.say(CHAIN_WOOD), "kept 2")
        self.assertEqual(desk.say("show"), "kind nat ; z ; s nat")
        self.assertEqual(desk.say("wood kind p"), "kept 0")
        self.assertEqual(desk.say("show"), "kind p")
        self.assertEqual(desk.say("wood " + in_row(show_wood(WOOD))), "kept 10")
        self.assertEqual(desk.say("show"), in_row(show_wood(WOOD)))
        self.assertEqual(desk.say(row="wood kind p ; kind q ; a ; b p q"), "kept 2")

    def test_readers(self):
        desk = Desk()
        desk.say(CHAIN_WOOD)
        self.assertEqual(desk.say("reader st " + STEPS), "kept 1")
        self.assertEqual(desk.say("reader sq " + SQUARES), "kept 2")
        self.assertEqual(desk.say("show st"), STEPS)
        self.assertEqual(desk.say("show sq"), SQUARES)
        # in the place of another one
        self.assertEqual(desk.say("reader st " + EMPTY), "kept 0")
        self.assertEqual((desk.say("show st"), desk.say("show sq")), (EMPTY, SQUARES))
        # terms as they stand
        text = "reader 1 ; z 0 = 1 + 0 + -2/3 ; s 0 = 0 0.0 + 5 + 1 0.0 + 1 0.0"
        self.assertEqual((desk.say("reader st " + text), desk.say("show st")), ("kept 1", text))
        desk.say("wood " + in_row(show_wood(WOOD)))
        self.assertEqual(desk.say("reader all " + in_row(READER_TEXT)), "kept 6")
        self.assertEqual(desk.say("show all"), in_row(READER_TEXT))

    def test_readers_are_gone_when_a_wood_is_kept(self):
        desk = chain_desk()
        self.assertEqual(desk.say(CHAIN_WOOD), "kept 2")
        for name in ("st", "sq", "no"):
            self.refused(NotKept, desk, f"show {name}", "name", name)
        desk.say("reader st " + STEPS)
        # not by one that is refused
        self.refused(NoText, desk, "wood kind", "row", 0)
        self.refused(NoWood, desk, "wood kind p ; a q", "word", "part", "name", "a")
        self.assertEqual((desk.say("show st"), desk.say("show")), (STEPS, "kind nat ; z ; s nat"))

    def test_read(self):
        desk = chain_desk()
        for tree, st, sq in (("z", "0", "0 0"), ("s(z)", "1", "1 1"), ("s(s(s(z)))", "3", "3 9")):
            self.assertEqual((desk.say(f"read st {tree}"), desk.say(f"read sq {tree}")), (st, sq))
            self.assertEqual(desk.say(f"read no {tree}"), "none")
        desk.say("reader half reader 2 ; z 0 = -7/2 ; z 1 = 1 ; s 0 = 1/2 0.0 ; s 1 = none")
        self.assertEqual(desk.say("read half s(z)"), "-7/4 0")
        desk.say("wood " + in_row(show_wood(WOOD)))
        desk.say("reader all " + in_row(READER_TEXT))
        reader = read_reader(WOOD, READER_TEXT)
        for nested, tree in some_trees(321, 30):
            boxes = [str(number) for number in read_whole(WOOD, reader, tree)]
            self.assertEqual(desk.say(f"read all {show_tree(tree)}"), " ".join(boxes))

    def test_read_great_trees(self):
        desk = chain_desk()
        self.assertEqual(desk.say("read sq " + "s(" * 1999 + "z" + ")" * 1999), f"1999 {1999 ** 2}")

    def test_sayings(self):
        desk = chain_desk()
        self.assertEqual(desk.say("sayings sq nat 1"), "none")
        self.assertEqual(desk.say("sayings sq nat 2"), "-1 x1 + 1 x0^2")
        self.assertEqual(desk.say("sayings sq nat 3"), "-1 x1 + 1 x0^2 , -1 x0 x1 + 1 x0^3 , -1 x1^2 + 1 x0^2 x1")
        self.assertEqual(desk.say("sayings no nat 4"), "none")
        desk.say("reader half reader 2 ; z 0 = 1 ; z 1 = 1/2 ; s 0 = 1 0.0 ; s 1 = 1 0.1")
        self.assertEqual(desk.say("sayings half nat 1"), "-1 + 1 x0 , -1 + 2 x1")
        # of a kind without trees
        desk.say("wood kind p ; f p ; kind q ; a")
        desk.say("reader a reader 1 0 ; f 0 = 5")
        self.assertEqual((desk.say("sayings a p 2"), desk.say("sayings a q 2")), ("1 , 1 x0 , 1 x0^2", "none"))

    def test_ask(self):
        desk = chain_desk()
        for poly, expected in (
            ("-1 x1 + 1 x0^2", "always"), ("0", "always"), ("1 x0", "s(z)"), ("1", "z"), ("-1 x0 + 1 x1", "s(s(z))"),
            ("2/3 x1 + -2/3 x0^2", "always"), ("1 x0 x1 + -1 x0^3", "always"), ("1 x0 x1 + 1 x0^3", "s(z)"),
        ):
            self.assertEqual(desk.say(f"ask sq nat {poly}"), expected)
        self.assertEqual(desk.say("ask st nat 24 x0 + -50 x0^2 + 35 x0^3 + -10 x0^4"), "s(z)")
        self.assertEqual(desk.say("ask no nat 0"), "always")
        self.assertEqual(desk.say("ask no nat -5/3"), "z")

    def test_alike(self):
        desk = chain_desk()
        self.assertEqual(desk.say("alike st sq nat 0 0"), "alike")
        self.assertEqual(desk.say("alike st sq nat 0 1"), "s(s(z))")
        self.assertEqual(desk.say("alike sq st nat 1 0"), "s(s(z))")
        self.assertEqual(desk.say("alike sq sq nat 1 1"), "alike")
        desk.say("reader b reader 1 ; z 0 = 1 ; s 0 = 1 0.0")
        self.assertEqual(desk.say("alike b st nat 0 0"), "z")

    def test_spare(self):
        desk = chain_desk()
        desk.say("reader a reader 3 ; z 0 = none ; z 1 = 1 ; z 2 = 7 ; s 0 = 1 0.1 ; s 1 = 1 0.0 + 2 ; s 2 = 1 0.2")
        self.assertEqual(desk.say("spare a"), "reader 1 ; z 0 = none ; s 0 = 1 + 1 0.0")
        self.assertEqual(desk.say("show a")[:8], "reader 3")
        self.assertEqual(desk.say("spare no"), "reader 0")
        self.assertEqual(desk.say("spare sq"), "reader 2 ; z 0 = none ; z 1 = none ; s 0 = 1 + 1 0.0 ; s 1 = 1 + 2 0.0 + 1 0.1")
        # what is told may be kept
        self.assertEqual(desk.say("reader b " + desk.say("spare a")), "kept 1")
        self.assertEqual(desk.say("alike a b nat 0 0"), "alike")

    def test_makers_called_as_words_of_the_desk(self):
        desk = Desk()
        desk.say("wood kind always ; always ; alike ; none always ; wood always always")
        desk.say("reader wood reader 1 ; always 0 = 1 ; alike 0 = 2 ; none 0 = 1 0.0 ; wood 0 = 1 0.0 1.0")
        desk.say("reader show reader 1 ; always 0 = 1 ; alike 0 = 1 ; none 0 = 1 0.0 ; wood 0 = 1 0.0 1.0")
        self.assertEqual(desk.say("ask wood always 1"), "always")
        self.assertEqual(desk.say("ask wood always -1 + 1 x0"), "alike")
        self.assertEqual(desk.say("ask show always -1 + 1 x0"), "always")
        self.assertEqual(desk.say("alike wood show always 0 0"), "alike")
        self.assertEqual(desk.say("alike show show always 0 0"), "alike")
        self.assertEqual(desk.say("read wood wood(alike,none(always))"), "2")
        self.assertEqual(desk.say("show show")[:10], "reader 1 ;")
        # a reader called as any word of the desk's
        for name in ("reader", "read", "ask", "spare", "alike", "none", "kept"):
            self.assertEqual(desk.say(f"reader {name} reader 0"), "kept 0")
            self.assertEqual(desk.say(f"show {name}"), "reader 0")

    def test_two_desks_keep_apart(self):
        one, other = chain_desk(), Desk()
        self.refused(NotKept, other, "show", "name", "wood")
        other.say("wood kind p ; a")
        other.say("reader st reader 1 ; a 0 = 5")
        self.assertEqual((one.say("show"), other.say("show")), ("kind nat ; z ; s nat", "kind p ; a"))
        self.assertEqual((one.say("show st"), other.say("show st")), (STEPS, "reader 1 ; a 0 = 5"))
        self.refused(NotKept, other, "show sq", "name", "sq")

    def test_no_row_other_words(self):
        desk = chain_desk()
        for row in (
            "", "woods kind p", "Wood kind p", "shows", "show.", "WOOD kind p", "kept", "none", "kind nat", "st", "say show", ";",
            "say", "readers st nat 1", "saying st nat 1", "asks st nat 1", "spares st", "show;", "0", "reads st z",
        ):
            self.refused(NoRow, desk, row)

    def test_no_row_counts_of_words(self):
        desk = chain_desk()
        for row in (
            "wood", "reader", "reader st", "read", "read st", "read st z z", "read st s( z )", "sayings", "sayings st",
            "sayings st nat", "sayings st nat 1 1", "ask", "ask st", "ask st nat", "alike", "alike st", "alike st sq", "alike st sq nat",
            "alike st sq nat 0", "alike st sq nat 0 0 0", "spare", "spare st sq", "show st sq",
        ):
            self.refused(NoRow, desk, row)

    def test_no_row_words_without_signs(self):
        desk = chain_desk()
        rows = (
            "wood kind p ; a", "reader new reader 0", "show", "show st", "read st z", "sayings sq nat 2", "ask sq nat 1 x0 + 1 x1",
            "alike st sq nat 0 0", "spare sq",
        )
        for row in rows:
            for off in (" " + row, row + " ", "  " + row, row + "  "):
                self.refused(NoRow, desk, off)
            for at in [place for place, sign in enumerate(row) if sign == " "]:
                self.refused(NoRow, desk, row[:at] + " " + row[at:])
            for at in range(len(row) + 1):
                self.refused(NoRow, desk, row[:at] + "\n" + row[at:])
        for row in ("wood ", "reader new ", "ask st nat ", " ", "  ", "\n", "show \n", "read st "):
            self.refused(NoRow, desk, row)

    def test_no_row_names(self):
        desk = chain_desk()
        for name in ("kind", "St", "st1", "", "sevenss", "s-t", "s(z)", ";", "0", "-", "st,", "KIND"):
            for row in (
                "show {}", "reader {} reader 0", "read {} z", "sayings {} nat 1", "ask {} nat 1", "alike {} st nat 0 0",
                "alike st {} nat 0 0", "spare {}", "sayings st {} 1", "ask st {} 1", "alike st sq {} 0 0",
            ):
                self.refused(NoRow, desk, row.format(name))

    def test_no_row_figures(self):
        desk = chain_desk()
        for degree in ("0", "5", "9", "10", "01", "-1", "x", "1/1", "+1", "4.", "11", ";", "\u0661"):
            self.refused(NoRow, desk, f"sayings st nat {degree}")
        for box in ("00", "01", "10", "-1", "x", "x0", "1/1", "a", ",", "0.", "\u0660"):
            self.refused(NoRow, desk, f"alike st sq nat {box} 0")
            self.refused(NoRow, desk, f"alike st sq nat 0 {box}")

    def test_not_kept(self):
        desk = chain_desk()
        for row in ("show new", "read new z", "sayings new nat 1", "ask new nat 1", "alike new st nat 0 0", "alike st new nat 0 0",
                    "spare new", "alike new a nat 0 0", "alike new new nat 0 0"):
            self.refused(NotKept, desk, row, "name", "new")
        self.refused(NotKept, desk, "show wood", "name", "wood")
        self.refused(NotKept, desk, "alike st wood nat 0 0", "name", "wood")

    def test_no_wood_is_kept(self):
        desk = Desk()
        for row in ("show", "show st", "reader st " + STEPS, "reader st x", "read st z", "sayings st nat 1", "ask st nat 1", "ask st p %",
                    "alike st sq nat 0 0", "spare st"):
            refused = refusal(NotKept, desk.say, row)
            self.assertEqual(refused.name, "wood")
        for row in ("show a b", "", "reader kind x", "sayings st nat 5", "wood", "alike st sq nat 0 x", "read st"):
            refusal(NoRow, desk.say, row)
        self.refused(NoText, desk, "wood p", "row", 0)
        self.assertEqual(refusal(NotKept, desk.say, "show").name, "wood")
        self.assertEqual(desk.say("wood kind p"), "kept 0")

    def test_no_kind(self):
        desk = chain_desk()
        for kind in ("num", "na", "nats", "z", "s", "st"):
            self.refused(NoRow, desk, f"sayings st {kind} 1")
            # ahead of the text's refusal, of boxes, of rooms
            self.refused(NoRow, desk, f"ask st {kind} x")
            self.refused(NoRow, desk, f"ask st {kind} 1 x7")
            self.refused(NoRow, desk, f"alike st sq {kind} 7 7")
            # behind the names
            self.refused(NotKept, desk, f"sayings new {kind} 1", "name", "new")
            self.refused(NotKept, desk, f"ask new {kind} 1", "name", "new")
            self.refused(NotKept, desk, f"alike st new {kind} 0 0", "name", "new")

    def test_texts_of_woods(self):
        desk = chain_desk()
        for text, row in (
            ("p", 0), ("kind", 0), ("kind kind", 0), ("kind p q", 0), ("kind p ; a p p p", 1), ("kind p ; a ; B", 2), ("kind p ;", 0),
            ("; kind p", 0), ("kind p ; ; a", 1), ("kind p; a", 0), ("kind p ;a", 0), ("kind p ; a ;", 1), (";", 0), ("kind p ; kind", 1),
            ("kind p ; a ; ; b", 2), ("kind p ; a b c d", 1),
        ):
            self.refused(NoText, desk, "wood " + text, "row", row)
        for text, word, name in (
            ("kind p ; kind p", "kind", "p"), ("kind p ; a ; a", "maker", "a"), ("kind p ; a q", "part", "a"),
            (" ; ".join(["kind " + name for name in "pqrst"]), "kinds", ""),
            (" ; ".join(["kind p"] + list("abcdefghijklm")), "makers", ""),
        ):
            self.refused(NoWood, desk, "wood " + text, "word", word, "name", name)

    def test_texts_of_readers(self):
        desk = chain_desk()
        for text, row in (
            ("x", 0), ("reader", 0), ("reader 1 1", 0), ("reader 01", 0), ("reader 1", 1), ("reader 1 ; z 0 = none", 2),
            ("reader 1 ; s 0 = none ; z 0 = none", 1), ("reader 1 ; z 0 = 2/4 ; s 0 = none", 1), ("reader 0 ; z 0 = none", 1),
            ("reader 1 ; z 0 = none ; s 0 = 1 1.0", 2), ("reader 1 ; z 0 = none ; s 0 = none ;", 2), ("reader 0 ;", 0), (";", 0),
            ("reader 1 ; z 0 = none ; s 0 = none ; s 1 = none", 3), ("reader 99 ; z 0 = none", 2),
        ):
            for name in ("new", "st"):
                self.refused(NoText, desk, f"reader {name} {text}", "row", row)
        boxes = [f"{maker} {box} = none" for maker in "zs" for box in range(5)]
        self.refused(NoReader, desk, "reader new " + " ; ".join(["reader 5"] + boxes), "word", "counts", "maker", "")
        self.refused(NoReader, desk, "reader st reader 1 ; z 0 = none ; s 0 = 1 0.1", "word", "box", "maker", "s")

    def test_texts_of_trees_and_polys(self):
        desk = chain_desk()
        for tree in ("(", "s(z", "s(z))", "s()", "Z", "z,z", "s(,z)", "1", "(z)"):
            self.refused(NoText, desk, f"read st {tree}", "row", 0)
        for tree, at in (("y", 0), ("s", 0), ("z(z)", 1), ("s(z,z)", 2), ("s(s(y))", 0), ("s(y(z))", 1)):
            self.refused(NoWord, desk, f"read st {tree}", "at", at)
        for poly in ("x0", "1 x0^1", "2/4", "0 x0", "1 + 1", "+", "1 x1 + 1 x0", "1 x0 +", "--1", "x", "1 x0^10"):
            self.refused(NoText, desk, f"ask sq nat {poly}", "row", 0)
        for poly, box in (("1 x2", 2), ("1 x0 x5", 5), ("1 x9 + 1 x2^2", 9), ("1 x2^9", 2)):
            self.refused(NoBox, desk, f"ask sq nat {poly}", "box", box)
        self.refused(NoBox, desk, "ask no nat 1 x0", "box", 0)

    def test_polys_above_the_degree_4(self):
        desk = chain_desk()
        for poly in ("1 x0^5", "1 x0^3 x1^2", "1 + 1 x1^9", "1 x0 + 1 x0^4 x1^4"):
            self.refused(NoRow, desk, f"ask sq nat {poly}")
        # the text's refusal ahead of it, more rooms than twelve behind it
        self.refused(NoBox, desk, "ask st nat 1 x1^5", "box", 1)
        self.refused(NoText, desk, "ask st nat 1 x0^5 + 1", "row", 0)
        self.refused(TooWide, desk, "ask sq nat 1 x0^4", "rooms", 15)
        self.assertEqual(desk.say("ask st nat 1 x0^4"), "s(z)")

    def test_boxes_that_are_not_there(self):
        desk = chain_desk()
        self.refused(NoBox, desk, "alike st sq nat 1 0", "box", 1)
        self.refused(NoBox, desk, "alike st sq nat 0 2", "box", 2)
        self.refused(NoBox, desk, "alike st sq nat 9 7", "box", 9)
        self.refused(NoBox, desk, "alike sq st nat 1 1", "box", 1)
        self.refused(NoBox, desk, "alike no st nat 0 0", "box", 0)
        self.refused(NoBox, desk, "alike st no nat 0 0", "box", 0)

    def test_too_wide(self):
        desk = chain_desk()
        self.refused(TooWide, desk, "sayings sq nat 4", "rooms", 15)
        self.assertEqual(desk.say("sayings sq nat 3").count(" , "), 2)
        self.refused(TooWide, desk, "ask sq nat 1 x0 x1^3", "rooms", 15)
        # four kinds of four boxes each: twenty rooms to the degree 1
        desk.say("wood kind p ; kind q ; kind r ; kind s ; f s")
        rows = " ; ".join(["reader 4 4 4 4"] + [f"f {box} = none" for box in range(4)])
        desk.say("reader great " + rows)
        for row in ("sayings great p 1", "ask great p 1", "ask great q 0", "spare great"):
            self.refused(TooWide, desk, row, "rooms", 20)
        self.refused(TooWide, desk, "sayings great p 2", "rooms", 60)
        self.refused(TooWide, desk, "sayings great p 4", "rooms", 280)
        self.refused(TooWide, desk, "ask great p 1 x0 x1", "rooms", 60)
        self.refused(TooWide, desk, "alike great great s 0 0", "rooms", 36)
        self.refused(NoBox, desk, "alike great great s 0 4", "box", 4)
        desk.say("reader a reader 2 2 2 2 ; f 0 = none ; f 1 = none")
        self.assertEqual(desk.say("sayings a p 1"), "1 , 1 x0 , 1 x1")
        self.assertEqual(desk.say("spare a"), "reader 0 0 0 0")
        # both beside one another: one room more than twelve
        desk.say("reader b reader 1 0 0 0")
        self.refused(TooWide, desk, "alike a b p 0 0", "rooms", 13)
        desk.say("reader st reader 1 2 2 2 ; f 0 = none ; f 1 = none")
        self.assertEqual(desk.say("alike st b p 0 0"), "alike")

    def test_too_long(self):
        # each level is twice the one below, and its box is nought at all other trees: the lowest one is of 2,047 names
        desk = Desk()
        desk.say("wood kind p ; a ; kind q ; b p p ; kind t ; c q q ; f t t ; kind u ; g t t ; h u u")
        last = [(None, 1), (0, -1), (1, -1), (2, -1), (3, -1)]
        fifth = " + ".join([
            " ".join([str(one * other)] + [f"{part}.{own}" for part, own in ((0, box), (1, its)) if own is not None])
            for box, one in last for its, other in last
        ])
        desk.say(" ; ".join([
            "reader great reader 0 0 4 4", "c 0 = 1", "c 1 = none", "c 2 = none", "c 3 = none",
            "f 0 = 1 + -1 0.0 1.0 + -1 0.1 1.1 + -1 0.2 1.2 + -1 0.3 1.3", "f 1 = 1 0.0 1.0", "f 2 = 1 0.1 1.1", "f 3 = 1 0.2 1.2",
            f"g 0 = {fifth}", "g 1 = none", "g 2 = none", "g 3 = none",
            "h 0 = none", "h 1 = 1 0.0 1.0", "h 2 = 1 0.1 1.1", "h 3 = 1 0.2 1.2",
        ]))
        tree = "c(b(a,a),b(a,a))"
        for level in range(8):
            boxes = ["1" if box == (level if level < 4 else level - 5) else "0" for box in range(4)]
            self.assertEqual(desk.say(f"read great {tree}"), " ".join(boxes))
            if level in (1, 2, 3):
                self.assertEqual(desk.say(f"ask great t 1 x{level}"), tree)
            if level in (5, 6, 7):
                self.assertEqual(desk.say(f"ask great u 1 x{level - 5}"), tree)
            tree = f"{'f' if level < 4 else 'g' if level == 4 else 'h'}({tree},{tree})"
        # its text is read, though it isn't told
        self.assertEqual((tree.count("a"), desk.say(f"read great {tree}")), (1024, "0 0 0 1"))
        self.refused(TooLong, desk, "ask great u 1 x3", "most", 2000)
        self.refused(TooLong, desk, "ask great u -5/3 x3", "most", 2000)
        self.assertEqual(desk.say("ask great u 1 x0 + 1 x3").count("a"), 128)

    def test_some_readers(self):
        source = chance(322)
        for turn in range(60):
            degree = 1 + turn % 4
            wood, reader = some_within(source, degree)
            desk = Desk()
            desk.say("wood " + in_row(show_wood(wood)))
            text = in_row(show_reader(wood, reader))
            self.assertEqual(desk.say("reader a " + text), f"kept {sum(reader[0])}")
            self.assertEqual(desk.say("show a"), text)
            for kind, (name, makers) in enumerate(wood):
                sayings = sayings_of(wood, reader, degree)[kind]
                told = " , ".join([str(poly) for poly in sayings]) or "none"
                self.assertEqual(desk.say(f"sayings a {name} {degree}"), told)
                for poly in sayings:
                    self.assertEqual(desk.say(f"ask a {name} {poly}"), "always")
            if degree == 1:
                self.assertEqual(desk.say("spare a"), in_row(show_reader(wood, least_reader(wood, reader)[0])))

    def test_one_sign_off(self):
        # rows with one sign otherwise are answered or refused, and what is refused changes nothing
        rows = ("sayings sq nat 2", "alike st sq nat 0 0", "show st", "ask sq nat 1 x0", "read st s(z)", "spare sq")
        desk = chain_desk()
        ahead = self.kept(desk)
        for row in rows:
            for off in one_sign_off(row, " sq0;1z"):
                try:
                    self.assertIsInstance(desk.say(off), str)
                except (NoRow, NotKept, NoText, NoBox, NoWord):
                    pass
        self.assertEqual(self.kept(desk), ahead)

    def test_the_same_is_told_again(self):
        desk = chain_desk()
        rows = ("show", "show sq", "read sq s(z)", "sayings sq nat 2", "ask sq nat 1 x0", "alike st sq nat 0 1", "spare sq")
        first = [desk.say(row) for row in rows]
        self.assertEqual([desk.say(row) for row in reversed(rows)], first[::-1])
        tree = read_tree(read_wood("kind nat\nz\ns nat"), first[4])
        reader = read_reader(read_wood("kind nat\nz\ns nat"), SQUARES.replace(" ; ", "\n"))
        self.assertEqual(answered(read_wood("kind nat\nz\ns nat"), reader, 0, read_poly("1 x0", 2)), ("tree", tree))

    def test_kinds_without_trees(self):
        desk = Desk()
        desk.say("wood " + in_row(show_wood(BARREN)))
        desk.say("reader a reader 0 0 1 1 ; d 0 = 1 ; e 0 = 2")
        self.assertEqual(desk.say("alike a a deep 0 0"), "alike")
        self.assertEqual(desk.say("ask a void 1"), "always")
        self.assertEqual(desk.say("spare a"), "reader 0 0 0 0")
        self.assertEqual(desk.say("sayings a p 1"), "none")


if __name__ == "__main__":
    unittest.main()
