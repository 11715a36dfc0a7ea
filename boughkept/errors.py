"""The refusals: what each is made of is kept as it is, in fields of that name.

Messages are fixed words, since what is kept may be anything, also what can't be written.
"""


class BoughError(ValueError):
    """Any refusal but Nought, NotKept and NoBox."""


class NoText(BoughError):
    """A text that has no such form, at a row."""

    def __init__(self, row):
        super().__init__("a text without the form that it has to have")
        self.row = row


class NoWood(BoughError):
    """What is no wood."""

    def __init__(self, word, name):
        super().__init__("no wood")
        self.word = word
        self.name = name


class NoTree(BoughError):
    """What is no tree of its wood, at a row."""

    def __init__(self, at):
        super().__init__("a row that no tree of the wood can have there")
        self.at = at


class NoWord(BoughError):
    """Names that tell no tree, at a name."""

    def __init__(self, at):
        super().__init__("a name that can't stand there, or names that tell not one tree")
        self.at = at


class TooLong(BoughError):
    """A tree too great to be written out."""

    def __init__(self, most):
        super().__init__("a tree of too great a size to be written out")
        self.most = most


class NoReader(BoughError):
    """What is no reader of its wood."""

    def __init__(self, word, maker):
        super().__init__("no reader of the wood")
        self.word = word
        self.maker = maker


class NoFit(BoughError):
    """A name that a machine can't read where it stands."""

    def __init__(self, at):
        super().__init__("a name that doesn't fit the pile")
        self.at = at


class NoPrinter(BoughError):
    """What is no printer of its wood."""

    def __init__(self, word, maker):
        super().__init__("no printer of the wood")
        self.word = word
        self.maker = maker


class NoTurner(BoughError):
    """What is no turner between its woods."""

    def __init__(self, word, maker):
        super().__init__("no turner between the woods")
        self.word = word
        self.maker = maker


class TooWide(BoughError):
    """A question over too many rooms."""

    def __init__(self, rooms):
        super().__init__("too many rooms")
        self.rooms = rooms


class NoRow(BoughError):
    """What is none of the desk's rows."""

    def __init__(self):
        super().__init__("no row of the desk's")


class Nought(ZeroDivisionError):
    """Something over nought."""

    def __init__(self):
        super().__init__("over nought")


class NotKept(KeyError):
    """A name by which nothing is kept."""

    def __init__(self, name):
        super().__init__("nothing is kept by that name")
        self.name = name


class NoBox(IndexError):
    """A box that isn't there."""

    def __init__(self, box):
        super().__init__("no such box")
        self.box = box
