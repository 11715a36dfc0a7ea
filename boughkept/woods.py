"""Woods: tuples of kinds (name, makers), makers tuples of (name, parts)."""

from boughkept.errors import NoWood

LETTERS = "abcdefghijklmnopqrstuvwxyz"
MOST_LETTERS = 6
MOST_KINDS = 4
MOST_MAKERS = 12
MOST_PARTS = 2


def is_name(text):
    """Whether this is a name: one to six small letters, other than `kind`."""
    if not 1 <= len(text) <= MOST_LETTERS or text == "kind":
        return False
    return all([sign in LETTERS for sign in text])


def look_wood(wood):
    """True, or NoWood by the first thing that is amiss."""
    if not 1 <= len(wood) <= MOST_KINDS:
        raise NoWood("kinds", "")
    kinds = look_kinds(wood)
    makers = [maker for kind, own in wood for maker in own]
    look_makers(kinds, makers)
    if len(makers) > MOST_MAKERS:
        raise NoWood("makers", "")
    return True


def look_kinds(wood):
    """The kinds' names, all looked at."""
    kinds = []
    for name, makers in wood:
        if not is_name(name):
            raise NoWood("name", name)
        if name in kinds:
            raise NoWood("kind", name)
        kinds.append(name)
    return kinds


def look_makers(kinds, makers):
    """Refuses the first maker that can't be one."""
    ahead = []
    for name, parts in makers:
        if not is_name(name):
            raise NoWood("name", name)
        if name in ahead:
            raise NoWood("maker", name)
        if len(parts) > MOST_PARTS:
            raise NoWood("parts", name)
        if not all([part in kinds for part in parts]):
            raise NoWood("part", name)
        ahead.append(name)


def maker_table(wood):
    """For each maker's name, in order, its kind's number and a tuple of its parts' kinds' numbers."""
    numbers = {name: number for number, (name, makers) in enumerate(wood)}
    table = {}
    for kind, makers in wood:
        for name, parts in makers:
            table[name] = (numbers[kind], tuple([numbers[part] for part in parts]))
    return table


def makers_of(wood):
    """All makers' names, in order."""
    return list(maker_table(wood))


def kind_of(wood, maker):
    """The number of the kind that a maker makes."""
    return maker_table(wood)[maker][0]


def parts_of(wood, maker):
    """The numbers of the kinds of a maker's parts."""
    return maker_table(wood)[maker][1]
