"""What tests of printers use: printers by chance, and printing told by another way."""

from helpers import maker_rows

LETTERS = "ab"


def some_text(source, letters, most=3):
    return "".join([source.choice(letters) for sign in range(source.randrange(1, most + 1))])


def some_printer(source, wood, counts, letters=LETTERS, texts=2):
    """A printer with so many text boxes, at most so many texts between any two parts' boxes."""
    rules = []
    for maker, kind, parts in maker_rows(wood):
        places = [(part, box) for part, own in enumerate(parts) for box in range(counts[own])]
        chosen = source.sample(places, source.choice([len(places)] * 3 + list(range(len(places) + 1))))
        rows = [[] for box in range(counts[kind])]
        for item in chosen if rows else ():
            row = source.choice(rows)
            row += [some_text(source, letters) for turn in range(source.randrange(texts + 1))] + [item]
        for row in rows:
            row += [some_text(source, letters) for turn in range(source.randrange(texts + 1))]
        rules.append(tuple([tuple(row) for row in rows]))
    return (letters, tuple(counts), tuple(rules))


def printed(wood, printer, nested):
    """The texts of a tree as (maker, parts)."""
    rules = dict(zip([maker for maker, kind, parts in maker_rows(wood)], printer[2]))

    def go(tree):
        own = [go(part) for part in tree[1]]
        texts = []
        for row in rules[tree[0]]:
            text = ""
            for item in row:
                text += item if type(item) is str else own[item[0]][item[1]]
            texts.append(text)
        return tuple(texts)

    return go(nested)


def worth(letters, text):
    """A text's number, place by place."""
    places = reversed(range(len(text)))
    return sum([(1 + letters.index(sign)) * (len(letters) + 1) ** place for sign, place in zip(text, places)])


def width(letters, text):
    return (len(letters) + 1) ** len(text)
