"""A desk that keeps shapes by names."""

from wholesides.bartexts import show_bar
from wholesides.closed import is_closed, rim
from wholesides.deskrows import check_names, read_row
from wholesides.errors import NoFace
from wholesides.faces import is_face
from wholesides.kept import Kept
from wholesides.makes import join, link, sides
from wholesides.papers import paper_of
from wholesides.texts import show_paper, show_shape
from wholesides.tries import first_order
from wholesides.words import numbers_shown


def put(standing, name, shape):
    """Keeps a shape by a name, in the place of what stood there."""
    kept = Kept()
    for piece in shape:
        kept.lay(piece)
    standing[name] = kept
    return "ok"


def say_piece(standing, names, numbers):
    """Lays a piece; tells its number."""
    name = names[0]
    kept = standing[name] if name in standing else Kept()
    # A new one is kept only once the piece is laid: what is refused changes nothing.
    number = kept.lay(tuple(sorted(numbers)))
    standing[name] = kept
    return str(number)


def say_take(standing, names, numbers):
    """Takes a piece away, and the name with the last one."""
    kept = standing[names[0]]
    kept.take(numbers[0])
    if not kept.pieces:
        del standing[names[0]]
    return "ok"


def say_show(standing, names, numbers):
    """The lines of the shape."""
    return show_shape(standing[names[0]].shape())


def say_counts(standing, names, numbers):
    """The counts."""
    return numbers_shown(standing[names[0]].counts())


def say_brought(standing, names, numbers):
    """The brought counts."""
    return numbers_shown(standing[names[0]].brought())


def say_parts(standing, names, numbers):
    """The parts, a line each."""
    return "\n".join([numbers_shown(found) for found in standing[names[0]].parts()])


def say_closed(standing, names, numbers):
    """Whether the shape is closed."""
    return "yes" if is_closed(standing[names[0]].shape()) else "no"


def say_order(standing, names, wish):
    """The first order as wished."""
    order = first_order(standing[names[0]].shape(), wish)
    return "none" if order is None else numbers_shown(order)


def say_many(standing, names, wish):
    """How many orders as wished there are."""
    return str(standing[names[0]].how_many(wish))


def say_paper(standing, names, wish):
    """The lines of the first order's paper."""
    shape = standing[names[0]].shape()
    order = first_order(shape, wish)
    return "none" if order is None else show_paper(paper_of(shape, order))


def say_why(standing, names, wish):
    """The lines of a bar."""
    word, told = standing[names[0]].answer(wish)
    return "none" if word == "order" else show_bar(told)


def say_link(standing, names, numbers):
    """Keeps the link of a face."""
    face = tuple(sorted(numbers))
    if not is_face(face):
        raise NoFace("these are no corners of a face")
    return put(standing, names[0], link(standing[names[1]].shape(), face))


def say_sides(standing, names, numbers):
    """Keeps the shape of the sides."""
    return put(standing, names[0], sides(standing[names[1]].shape()))


def say_rim(standing, names, numbers):
    """Keeps the rim, where there is one."""
    shape = rim(standing[names[1]].shape())
    return "none" if shape is None else put(standing, names[0], shape)


def say_join(standing, names, numbers):
    """Keeps the join of two shapes."""
    return put(standing, names[0], join(standing[names[1]].shape(), standing[names[2]].shape()))


def say_names(standing, names, numbers):
    """All names, rising."""
    return " ".join(sorted(standing)) if standing else "none"


ACTIONS = {
    "piece": say_piece, "take": say_take, "show": say_show, "counts": say_counts, "brought": say_brought,
    "parts": say_parts, "closed": say_closed, "order": say_order, "many": say_many, "paper": say_paper,
    "why": say_why, "link": say_link, "sides": say_sides, "rim": say_rim, "join": say_join, "names": say_names}


class Desk:
    """Shapes that stand by names, none at first."""

    def __init__(self):
        self.standing = {}

    def say(self, row):
        """The answer to a row; NoRow, NoName, then as the functions beneath refuse."""
        word, names, told = read_row(row)
        check_names(self.standing, word, names)
        action = ACTIONS[word]
        return action(self.standing, names, told)
