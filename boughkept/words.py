"""Trees written out, as words and as texts."""

from boughkept.errors import NoText, NoWord, TooLong
from boughkept.trees import number_of_row, size_of
from boughkept.woods import is_name, maker_table

MOST_NAMES = 2000


def look_size(tree):
    """Refuses what is too great to be written out."""
    if size_of(tree) > MOST_NAMES:
        raise TooLong(MOST_NAMES)


def word_of(tree):
    """The makers, the parts from the left ahead of what is made of them."""
    look_size(tree)
    names = []
    waiting = [len(tree) - 1]
    # from the whole on, the right parts first: just the word from behind
    while len(waiting) > 0:
        maker, parts = tree[waiting.pop()]
        names.append(maker)
        waiting.extend(parts)
    return tuple(reversed(names))


def show_tree(tree):
    """The maker's name, then the parts' texts in brackets."""
    look_size(tree)
    signs = []
    waiting = [len(tree) - 1]
    while len(waiting) > 0:
        thing = waiting.pop()
        if isinstance(thing, str):
            signs.append(thing)
        else:
            maker, parts = tree[thing]
            signs.append(maker)
            waiting.extend(bracketed(parts)[::-1])
    return "".join(signs)


def bracketed(parts):
    """The parts with brackets around and commas between, nothing where there are none."""
    if len(parts) == 0:
        return []
    things = ["(", parts[0]]
    for part in parts[1:]:
        things.extend([",", part])
    return things + [")"]


def tree_of(wood, word):
    """The plain tree whose word this is."""
    return tree_of_steps(wood, [(name, None) for name in word])


def read_tree(wood, text):
    """The plain tree whose text this is."""
    return tree_of_steps(wood, steps_of(text))


def tree_of_steps(wood, steps):
    """The plain tree of a word's names, each with how many stand in its brackets, None where that isn't told."""
    table = maker_table(wood)
    rows = []
    numbers = {}
    pile = []
    for at, (name, many) in enumerate(steps):
        if name not in table:
            raise NoWord(at)
        kind, wanted = table[name]
        under = len(pile) - len(wanted)
        if under < 0 or [own for number, own in pile[under:]] != list(wanted):
            raise NoWord(at)
        if many is not None and many != len(wanted):
            raise NoWord(at)
        row = (name, tuple([number for number, own in pile[under:]]))
        del pile[under:]
        pile.append((number_of_row(rows, numbers, row), kind))
    if len(pile) != 1:
        raise NoWord(len(steps))
    return tuple(rows)


def steps_of(text):
    """The names of a text in the order of its word, each with how many stand in its brackets."""
    steps = []
    begun = []
    ended = False
    for word, sign in cut_at_signs(text):
        look_piece(word, sign, ended)
        if sign == "(":
            begun.append((word, 1))
        else:
            if not ended:
                steps.append((word, 0))
            close_or_go_on(begun, steps, sign)
        ended = sign == ")"
    return steps


def look_piece(word, sign, ended):
    """Refuses a name or an opening bracket behind a closing one, and what is no name elsewhere."""
    if ended:
        fits = word == "" and sign != "("
    else:
        fits = is_name(word)
    if not fits:
        raise NoText(0)


def close_or_go_on(begun, steps, sign):
    """What a comma, a closing bracket or the end does to the names whose brackets are begun."""
    if (sign == "") != (len(begun) == 0):
        raise NoText(0)
    if sign == "":
        return
    name, many = begun.pop()
    if sign == ",":
        begun.append((name, many + 1))
    else:
        steps.append((name, many))


def cut_at_signs(text):
    """The pieces between brackets and commas, each with the sign behind it, the last one with none."""
    pieces = []
    start = 0
    for at, sign in enumerate(text):
        if sign in "(),":
            pieces.append((text[start:at], sign))
            start = at + 1
    pieces.append((text[start:], ""))
    return pieces
