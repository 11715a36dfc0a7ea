"""Woods' texts."""

from boughkept.errors import NoText
from boughkept.woods import MOST_PARTS, is_name, look_wood


def show_wood(wood):
    """A row for each kind, behind it one for each of its makers."""
    rows = []
    for kind, makers in wood:
        rows.append(f"kind {kind}")
        for name, parts in makers:
            rows.append(" ".join([name] + list(parts)))
    return "\n".join(rows)


def read_wood(text):
    """The wood whose text this is, looked at."""
    kinds = []
    for at, row in enumerate(text.split("\n")):
        words = row.split(" ")
        if is_kind_row(words):
            kinds.append((words[1], []))
        elif len(kinds) > 0 and is_maker_row(words):
            kinds[-1][1].append((words[0], tuple(words[1:])))
        else:
            raise NoText(at)
    wood = tuple([(kind, tuple(makers)) for kind, makers in kinds])
    look_wood(wood)
    return wood


def is_kind_row(words):
    return len(words) == 2 and words[0] == "kind" and is_name(words[1])


def is_maker_row(words):
    return len(words) <= 1 + MOST_PARTS and all([is_name(word) for word in words])
