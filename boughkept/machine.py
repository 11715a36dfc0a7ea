"""The machine that reads a written tree in one going."""

from boughkept.codes import code_of
from boughkept.errors import NoFit
from boughkept.fractions import common_divisor, show_fraction
from boughkept.wholes import fractions_in, row_of_pairs
from boughkept.woods import maker_table


def orders_of(wood, reader):
    """For each maker's name its kind, its parts' kinds and its deeds."""
    table = maker_table(wood)
    return {maker: table[maker] + (deeds,) for maker, deeds in zip(list(table), code_of(wood, reader))}


def bench_behind(deeds, parts):
    """What lies on the bench behind these deeds: pairs (upper, lower), perhaps with common divisors."""
    bench = []
    for deed in deeds:
        if deed[0] == "put":
            bench.append(deed[1])
        elif deed[0] == "take":
            row = parts[deed[1]]
            bench.append((row[1 + deed[2]], row[0]))
        else:
            other = bench.pop()
            one = bench.pop()
            bench.append(pair_product(one, other) if deed[0] == "times" else pair_sum(one, other))
    return bench


def pair_product(one, other):
    return (one[0] * other[0], one[1] * other[1])


def pair_sum(one, other):
    common = common_divisor(one[1], other[1])
    own = one[1] // common
    return (one[0] * (other[1] // common) + other[0] * own, own * other[1])


def show_thing(name, fractions):
    inside = " ".join([show_fraction(number) for number in fractions])
    return f"{name}({inside})"


class Machine:
    """Reads makers' names one by one, by a reader's code, on a pile."""

    def __init__(self, wood, reader):
        self.kind_names = [name for name, makers in wood]
        self.orders = orders_of(wood, reader)
        # pairs of a kind and its boxes as a row of whole numbers in lowest terms, so alike ones are alike here
        self.things = []
        # for each name read what it took away, and the two numbers below as they were ahead of it
        self.ahead = []
        self.most_high = 0
        self.many_deeds = 0

    def feed(self, maker):
        """Reads a name, or NoFit."""
        if maker not in self.orders:
            raise NoFit(len(self.ahead))
        kind, wanted, deeds = self.orders[maker]
        under = len(self.things) - len(wanted)
        if under < 0 or [own for own, row in self.things[under:]] != list(wanted):
            raise NoFit(len(self.ahead))
        taken = self.things[under:]
        whole = (kind, row_of_pairs(bench_behind(deeds, [row for own, row in taken])))
        self.ahead.append((taken, self.most_high, self.many_deeds))
        self.things[under:] = [whole]
        self.most_high = max(self.most_high, len(self.things))
        self.many_deeds += len(deeds)

    def feed_all(self, word):
        """Reads a word, name by name."""
        for maker in word:
            self.feed(maker)

    def back(self):
        """Takes the last name back; False where there is none."""
        if len(self.ahead) == 0:
            return False
        taken, self.most_high, self.many_deeds = self.ahead.pop()
        self.things[-1:] = taken
        return True

    def pile(self):
        """The piled things (kind's number, fractions), the topmost last."""
        return [(kind, fractions_in(row)) for kind, row in self.things]

    def highest(self):
        """The most that the pile was high."""
        return self.most_high

    def deeds_done(self):
        """How many deeds were done."""
        return self.many_deeds

    def __eq__(self, other):
        return isinstance(other, Machine) and self.things == other.things

    def __len__(self):
        return len(self.things)

    def __str__(self):
        return " ".join([show_thing(self.kind_names[kind], fractions_in(row)) for kind, row in self.things])
