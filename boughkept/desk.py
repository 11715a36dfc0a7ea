"""The desk: keeps a wood and, by names, readers of it, and answers what it is told row by row."""

from boughkept.alike import put_beside, told_alike
from boughkept.answers import answered
from boughkept.errors import NoBox, NoRow, NotKept, TooWide
from boughkept.fractions import FIGURES, show_fraction
from boughkept.least import least_reader
from boughkept.polytexts import read_poly
from boughkept.raised import rooms_of
from boughkept.readers import boxes_at
from boughkept.readertexts import read_reader, show_reader
from boughkept.sayings import sayings_of
from boughkept.woods import is_name, makers_of
from boughkept.woodtexts import read_wood, show_wood
from boughkept.words import read_tree, show_tree

MOST_ROOMS = 12
MOST_DEGREE = 4
# for each first word what may stand behind it, each a word but a text, which goes to the end
FORMS = {
    "wood": (("text",),),
    "reader": (("name", "text"),),
    "show": ((), ("kept",)),
    "read": (("kept", "word"),),
    "sayings": (("kept", "kind", "degree"),),
    "ask": (("kept", "kind", "text"),),
    "alike": (("kept", "kept", "kind", "figure", "figure"),),
    "spare": (("kept",),),
}


def form_of(words):
    """The form that a row's words are as many as."""
    for form in FORMS.get(words[0], ()):
        if len(words) - 1 == len(form) or (len(words) > len(form) and "text" in form):
            return form
    raise NoRow()


def words_behind(words, form):
    """What stands behind the first word, one for each thing of the form."""
    last = len(form)
    if last == 0:
        return []
    return words[1:last] + [" ".join(words[last:])]


def fits(sort, word):
    """Whether a word can be such a thing of a form."""
    if sort == "degree":
        return is_figure(word) and 1 <= int(word) <= MOST_DEGREE
    if sort == "figure":
        return is_figure(word)
    return sort in ("word", "text") or is_name(word)


def is_figure(word):
    return len(word) == 1 and word in FIGURES


def meant(desk, sort, word):
    """The thing that a word of a form stands for."""
    if sort == "kept":
        if word not in desk.kept_readers:
            raise NotKept(word)
        return desk.kept_readers[word]
    if sort == "kind":
        kinds = [name for name, makers in desk.kept_wood]
        if word not in kinds:
            raise NoRow()
        return kinds.index(word)
    return int(word) if sort in ("degree", "figure") else word


def look_rooms(reader, degree):
    """Refuses a question over too many rooms."""
    rooms = sum(rooms_of(reader, degree))
    if rooms > MOST_ROOMS:
        raise TooWide(rooms)


def look_box(reader, kind, box):
    if box >= reader[0][kind]:
        raise NoBox(box)


def in_rows(text):
    """A text as it is read, its rows parted by line feeds."""
    return text.replace(" ; ", "\n")


def in_one_row(text):
    """A text as it is told, without line feeds."""
    return text.replace("\n", " ; ")


def keep_wood(desk, things):
    desk.kept_wood = read_wood(in_rows(things[0]))
    desk.kept_readers = {}
    return f"kept {len(makers_of(desk.kept_wood))}"


def keep_reader(desk, things):
    name, text = things
    reader = read_reader(desk.kept_wood, in_rows(text))
    desk.kept_readers[name] = reader
    return f"kept {sum(reader[0])}"


def show_kept(desk, things):
    if len(things) == 0:
        return in_one_row(show_wood(desk.kept_wood))
    return in_one_row(show_reader(desk.kept_wood, things[0]))


def tell_boxes(desk, things):
    reader, text = things
    boxes = boxes_at(desk.kept_wood, reader, read_tree(desk.kept_wood, text))
    return " ".join([show_fraction(number) for number in boxes]) if len(boxes) > 0 else "none"


def tell_sayings(desk, things):
    reader, kind, degree = things
    look_rooms(reader, degree)
    sayings = sayings_of(desk.kept_wood, reader, degree)[kind]
    return " , ".join([str(saying) for saying in sayings]) if len(sayings) > 0 else "none"


def tell_answer(desk, things):
    reader, kind, text = things
    poly = read_poly(text, reader[0][kind])
    if poly.degree() > MOST_DEGREE:
        raise NoRow()
    look_rooms(reader, max(1, poly.degree()))
    return word_or_tree(answered(desk.kept_wood, reader, kind, poly))


def tell_alike(desk, things):
    one, other, kind, box, its = things
    look_box(one, kind, box)
    look_box(other, kind, its)
    look_rooms(put_beside(desk.kept_wood, one, other), 1)
    return word_or_tree(told_alike(desk.kept_wood, one, other, kind, box, its))


def word_or_tree(answer):
    """An answer's tree as a text, or its word where it has none."""
    return show_tree(answer[1]) if answer[0] == "tree" else answer[0]


def tell_least(desk, things):
    look_rooms(things[0], 1)
    least, tables = least_reader(desk.kept_wood, things[0])
    return in_one_row(show_reader(desk.kept_wood, least))


DEEDS = {
    "wood": keep_wood,
    "reader": keep_reader,
    "show": show_kept,
    "read": tell_boxes,
    "sayings": tell_sayings,
    "ask": tell_answer,
    "alike": tell_alike,
    "spare": tell_least,
}


class Desk:
    """Keeps one wood and readers of it."""

    def __init__(self):
        self.kept_wood = None
        self.kept_readers = {}

    def say(self, row):
        """The answer to a row, or a refusal, by which nothing is changed."""
        words = row.split(" ")
        form = form_of(words)
        told = words_behind(words, form)
        if "\n" in row or "" in words or not all([fits(sort, word) for sort, word in zip(form, told)]):
            raise NoRow()
        if self.kept_wood is None and words[0] != "wood":
            raise NotKept("wood")
        # readers' names stand ahead of the kind's in each form, so they are refused ahead of it
        things = [meant(self, sort, word) for sort, word in zip(form, told)]
        deed = DEEDS[words[0]]
        return deed(self, things)
