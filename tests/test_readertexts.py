"""[13] Readers' texts: written, read back, refused."""

import re
import unittest
from fractions import Fraction

from boughkept.errors import NoReader, NoText
from boughkept.readers import look_reader
from boughkept.readertexts import read_reader, show_reader
from helpers import (
    CHAIN_READER, CHAINS, READER, READER_TEXT, SIGNS, WOOD, chance, maker_rows, one_sign_off, pair, refusal,
    some_reader, some_wood,
)

SMALL = (("p", (("a", ()), ("g", ("p",)), ("f", ("p", "q")))), ("q", ()))
TEXT = "reader 1 2\na 0 = 1/2\ng 0 = none\nf 0 = -3 0.0 1.1 + 1"
FRACTION = "(-?[0-9]+)(?:/([0-9]+))?"
SHORT = "(0|[1-9][0-9]?)"
BARE = (("p", ()), ("q", ()))


def fraction_there(text):
    """The fraction that is written so, None where none is."""
    found = re.fullmatch(FRACTION, text)
    if found is None or len(found[1].lstrip("-")) > 30 or len(found[2] or "") > 30 or not int(found[2] or 1):
        return None
    number = Fraction(int(found[1]), int(found[2] or 1))
    return pair(number) if str(number) == text else None


def term_there(text, parts):
    """The term of a maker with so many parts, None where there is none."""
    first, *places = text.split(" ")
    found = [re.fullmatch(f"([01])\\.{SHORT}", place) for place in places]
    if fraction_there(first) is None or None in found:
        return None
    named = [int(one[1]) for one in found]
    if named != sorted(set(named)) or not set(named) <= set(range(parts)):
        return None
    boxes = {int(one[1]): int(one[2]) for one in found}
    return (fraction_there(first), tuple([boxes.get(part) for part in range(parts)]))


def reader_there(wood, text):
    """What a text tells, or the number of the row at which it is refused."""
    rows = text.split("\n")
    if not re.fullmatch(f"reader( {SHORT}){{{len(wood)}}}", rows[0]):
        return 0
    counts = tuple([int(word) for word in rows[0].split(" ")[1:]])
    rules, at = [], 1
    for maker, kind, parts in maker_rows(wood):
        rules.append([])
        for box in range(counts[kind]):
            found = re.fullmatch(f"{maker} {box} = (.*)", rows[at]) if at < len(rows) else None
            if found is None:
                return at
            terms = [] if found[1] == "none" else [term_there(term, len(parts)) for term in found[1].split(" + ")]
            if None in terms:
                return at
            rules[-1].append(tuple(terms))
            at += 1
    return at if at < len(rows) else (counts, tuple([tuple(sums) for sums in rules]))


class TestReaderTexts(unittest.TestCase):
    def check(self, wood, text):
        """Holds what is told of a text against another way of reading it."""
        expected = reader_there(wood, text)
        if isinstance(expected, int):
            self.no_text(text, expected, wood)
            return "row"
        try:
            look_reader(wood, expected)
        except NoReader as amiss:
            told = refusal(NoReader, read_reader, wood, text)
            self.assertEqual((told.word, told.maker), (amiss.word, amiss.maker), text)
            return "reader"
        self.assertEqual(read_reader(wood, text), expected, text)
        self.assertEqual(show_reader(wood, expected), text)
        return "read"

    def no_text(self, text, row, wood=SMALL):
        self.assertEqual(refusal(NoText, read_reader, wood, text).row, row, text)

    def no_reader(self, text, word, maker, wood=SMALL):
        told = refusal(NoReader, read_reader, wood, text)
        self.assertEqual((told.word, told.maker), (word, maker), text)

    def in_row(self, row, at=3):
        """The text with another row in the place of one."""
        rows = TEXT.split("\n")
        rows[at] = row
        return "\n".join(rows)

    def test_written_and_read_back(self):
        self.assertEqual(show_reader(WOOD, READER), READER_TEXT)
        self.assertEqual(read_reader(WOOD, READER_TEXT), READER)
        self.assertEqual(show_reader(reader=CHAIN_READER, wood=CHAINS),
                         "reader 2\nz 0 = none\nz 1 = 1\ns 0 = 1 0.0 + 1\ns 1 = 2/3 0.1")
        self.assertEqual(read_reader(text=show_reader(CHAINS, CHAIN_READER), wood=CHAINS), CHAIN_READER)
        told = read_reader(SMALL, TEXT)
        self.assertEqual(told, ((1, 2), (
            ((((1, 2), ()),),), ((),), ((((-3, 1), (0, 1)), ((1, 1), (None, None))),),
        )))
        self.assertEqual(show_reader(SMALL, told), TEXT)

    def test_tuples_all_through(self):
        counts, rules = told = read_reader(SMALL, TEXT)
        deep = [told, counts, rules, rules[0], rules[0][0], rules[0][0][0], rules[0][0][0][0], rules[2][0][0][1]]
        self.assertEqual({type(thing) for thing in deep}, {tuple})

    def test_without_boxes(self):
        self.assertEqual(read_reader(SMALL, "reader 0 0"), ((0, 0), ((), (), ())))
        self.assertEqual(show_reader(SMALL, ((0, 0), ((), (), ()))), "reader 0 0")
        self.assertEqual(read_reader(SMALL, "reader 0 4"), ((0, 4), ((), (), ())))

    def test_a_wood_without_makers(self):
        for counts, text in (((0, 0), "reader 0 0"), ((4, 1), "reader 4 1")):
            self.assertEqual(read_reader(BARE, text), (counts, ()))
            self.assertEqual(show_reader(BARE, (counts, ())), text)
            self.no_text(text + "\n", 1, BARE)
            self.no_text(text + "\np 0 = 1", 1, BARE)
        self.no_reader("reader 0 5", "counts", "", BARE)
        self.no_text("reader 0", 0, BARE)

    def test_the_first_row(self):
        for row in (
            "", "reader", "reader ", "reader 1", "reader 1 2 3", "reader  1 2", "reader 1  2", "reader 1 2 ", " reader 1 2",
            "Reader 1 2", "readers 1 2", "reader 01 2", "reader 1 02", "reader 00 2", "reader -1 2", "reader 1 x",
            "reader 1/1 2", "reader 1 100", "reader 100 2", "reader 1,2", "reader +1 2", "a 0 = 1", "kind p", "reader 1 2.",
        ):
            self.no_text(self.in_row(row, 0), 0)
            self.no_text(row, 0)

    def test_rows_that_lack(self):
        rows = TEXT.split("\n")
        for many in range(1, 4):
            self.no_text("\n".join(rows[:many]), many)
        self.no_text("reader 2 2\na 0 = 1/2", 2)
        self.no_text("reader 99 0\na 0 = 1", 2)
        self.no_text("reader 99 0", 1)

    def test_rows_too_many(self):
        self.no_text(TEXT + "\n", 4)
        self.no_text(TEXT + "\n\n", 4)
        self.no_text(TEXT + "\nf 1 = 1", 4)
        self.no_text(TEXT + "\nf 0 = 1\nf 2 = 1", 4)
        self.no_text("reader 0 0\na 0 = 1", 1)
        self.no_text("reader 0 0\n", 1)

    def test_makers_and_boxes_out_of_order(self):
        for row in ("g 1 = none", "g 00 = none", "a 0 = none", "f 0 = none", "h 0 = none", "g  0 = none", " g 0 = none",
                    "g 0 none", "g 0  = none", "g 0 =  none", "g 0=none", "g = none", "g 0 = ", "g 0 =", "g 0", "g", "",
                    "G 0 = none", "gg 0 = none", "g -0 = none", "reader 1 2"):
            self.no_text(self.in_row(row, 2), 2)
        self.no_text("reader 1 0\ng 0 = none\na 0 = 1\nf 0 = 1", 1)
        self.no_text("reader 2 0\na 1 = 1\na 0 = 1", 1)
        self.no_text("reader 2 0\na 0 = 1\na 0 = 1", 2)
        self.no_text("reader 2 0\na 0 = 1\na 2 = 1", 2)

    def test_terms(self):
        for part in (
            "", " ", "none + 1", "1 + none", "none ", "nones", "None", "+ 1", "1 +", "1 + ", " + 1", "1  + 1", "1 +  1",
            "1+1", "1 + + 1", "1 0.0 +1", "x", "0.0", "0.0 1", "1 0", "1 0.", "1 .0", "1 0.0.", "1 0.0.0", "1 0..0",
            "1 0.x", "1 0.0 ", "1  0.0", "1 0.00", "1 0.01", "1 0.100", "1 00.0", "1 01.0", "1 -0.0", "1 0.-1", "1 2.0",
            "1 10.0", "1 0,0", "1 0.0 0.0", "1 0.0 0.1", "1 1.0 1.0", "1 1.0 0.0", "1 0.0 1.0 1.0", "1 0.0 1.0 2.0",
            "1 1.0 0.0 1.0", "1 0.0 + 1 1.0 0.0", "1 0.0 - 1 1.0", "1 0 .0", "1 0.0,1.0", "1 0.none", "1 none",
        ):
            self.no_text(self.in_row("f 0 = " + part), 3)
        for part in ("1 1.0", "1 0.0 1.0", "1 0.0 + 1 1.0", "1 2.0"):
            self.no_text(self.in_row("g 0 = " + part, 2), 2)
        for part in ("1 0.0", "1 1.0", "1 + 1 0.0"):
            self.no_text(self.in_row("a 0 = " + part, 1), 1)

    def test_fractions(self):
        thirty, more = "9" * 30, "1" + "0" * 30
        for number, told in (
            ("0", (0, 1)), ("1", (1, 1)), ("-1", (-1, 1)), ("-2/3", (-2, 3)), (thirty, (int(thirty), 1)),
            ("-" + thirty, (-int(thirty), 1)), ("1/" + thirty, (1, int(thirty))),
            ("-1" + "0" * 29 + "/" + thirty, (-10 ** 29, int(thirty))),
        ):
            for row in ("f 0 = {} 0.0", "f 0 = {}", "f 0 = 1 + {}", "f 0 = {} 1.1 + 2"):
                text = self.in_row(row.format(number))
                self.assertIn(told, [term[0] for term in read_reader(SMALL, text)[1][2][0]])
                self.assertEqual(show_reader(SMALL, read_reader(SMALL, text)), text)
        for number in (more, "-" + more, "1/" + more, more + "/7", "00", "01", "-0", "-01", "+1", "1/1", "2/1", "2/2",
                       "4/6", "0/1", "0/2", "1/0", "1/-2", "-1/-2", "1/02", "1/", "/2", "1//2", "1/2/3", "--1", "1.0", "0x1"):
            for row in ("f 0 = {} 0.0", "f 0 = {}", "f 0 = 1 + {}", "f 0 = {} 1.1 + 2"):
                self.no_text(self.in_row(row.format(number)), 3)

    def test_greater_fractions_are_written(self):
        great = 7 ** 4000
        reader = ((1, 0), (((((great, 10 ** 30), ()),),), ((),), ((),)))
        text = show_reader(SMALL, reader)
        self.assertTrue(text.startswith("reader 1 0\na 0 = "))
        self.assertTrue(text.endswith(str(great % 10 ** 20) + "/1" + "0" * 30 + "\ng 0 = none\nf 0 = none"))
        self.no_text(text, 1)

    def test_boxes_of_two_figures(self):
        for box in ("2", "9", "10", "99"):
            self.no_reader(self.in_row(f"f 0 = 1 1.{box}"), "box", "f")
            self.no_reader(self.in_row(f"f 0 = 1 0.0 1.{box} + 1"), "box", "f")
        self.no_reader(self.in_row("g 0 = 1 0.1", 2), "box", "g")
        self.no_reader("reader 1 0\na 0 = 1\ng 0 = none\nf 0 = 1 1.0", "box", "f")

    def test_counts_of_five_and_more(self):
        for count in (5, 6, 7, 10, 12, 99):
            rows = [f"{maker} {box} = 1" for maker in "agf" for box in range(count)]
            text = "\n".join([f"reader {count} 0"] + rows)
            self.no_reader(text, "counts", "")
            self.no_text(text + "\n", 1 + 3 * count)
            self.no_text("\n".join([f"reader {count} 0"] + rows[:-1]), 3 * count)
            self.no_text("\n".join([f"reader {count} 0"] + rows[:5] + rows[6:]), 6)
        self.no_reader("reader 0 5", "counts", "")
        self.no_reader("reader 0 99", "counts", "")

    def test_rows_ahead_of_looking(self):
        self.no_text("reader 1 2\na 0 = 1\ng 0 = 1 0.7\nf 0 = 1 0.0 0.0", 3)
        self.no_text("reader 1 2\na 0 = 1\ng 0 = 1 0.7", 3)
        self.no_text("reader 1 7\na 0 = 1\ng 0 = 1 0.7\nf 0 = 1\n", 4)
        self.no_reader("reader 1 2\na 0 = 1\ng 0 = 1 0.7\nf 0 = 1 1.8", "box", "g")
        self.no_reader("reader 1 7\na 0 = 1\ng 0 = 1 0.7\nf 0 = 1 1.8", "counts", "")

    def test_the_first_row_of_several(self):
        self.no_text("reader 1 2\na 0 = x\ng 0 = x\nf 0 = x", 1)
        self.no_text("reader 1 2\na 0 = 1\ng 0 = x\nf 0 = x\n\n", 2)
        self.no_text("reader 1 2\na 0 = 1\ng 0 = x", 2)

    def test_makers_called_like_words(self):
        wood = (("none", (("reader", ()), ("none", ("none",)))),)
        text = "reader 2\nreader 0 = none\nreader 1 = 1\nnone 0 = none\nnone 1 = 2 0.1"
        self.assertEqual(show_reader(wood, read_reader(wood, text)), text)
        self.no_text("reader 0 = none", 0, wood)

    def test_a_sign_off_at_any_place(self):
        seen = set()
        for other in one_sign_off(TEXT, "01 .+=/-\nagf"):
            seen.add(self.check(SMALL, other))
        for other in one_sign_off("reader 1\nz 0 = 1\ns 0 = 1 0.0", SIGNS):
            seen.add(self.check(CHAINS, other))
        self.assertEqual(seen, {"row", "reader", "read"})

    def test_some_of_each(self):
        source = chance(111)
        for turn in range(300):
            wood = some_wood(source)
            reader = some_reader(source, wood, [source.randrange(5) for kind in wood], most=6)
            text = show_reader(wood, reader)
            self.assertEqual(read_reader(wood, text), reader)
            self.assertEqual(self.check(wood, text), "read")
            rows = text.split("\n")
            at = source.randrange(len(rows))
            deed = source.randrange(4)
            if deed == 0:
                del rows[at]
            elif deed == 1:
                rows.insert(at, source.choice(rows))
            elif deed == 2:
                rows[at] = rows[source.randrange(len(rows))]
            else:
                rows[at] = rows[at].replace(source.choice((" + ", "0.", "1", " ")), source.choice(("+", "1.", "", " 0.0 ")), 1)
            if rows:
                self.check(wood, "\n".join(rows))

    def test_told_again(self):
        for turn in range(2):
            self.assertEqual(read_reader(WOOD, READER_TEXT), READER)
            self.no_text("reader", 0)
            self.no_reader("reader 0 5", "counts", "")
            self.assertEqual(show_reader(WOOD, READER), READER_TEXT)


if __name__ == "__main__":
    unittest.main()
