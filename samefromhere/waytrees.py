"""Views of two-way nets, and the trees of the ways in them."""

from samefromhere.leastnets import least_net
from samefromhere.nets import Net

# By no door one came to the view itself.
NO_DOOR = -1


def is_view_of_doors(book, view):
    """Whether a view in a book is one of a place of some two-way net: at each place the doors are unlike, and through
    each one hears back what one said."""
    return all([_has_ways_back(book, inner) for inner in book.within(view)])


def _has_ways_back(book, view):
    rounds, _, triples = book.row(view)
    doors = [into for into, _, _ in triples]
    if len(set(doors)) < len(doors):
        return False
    if rounds < 2:
        return True
    said = book.cut(view, rounds - 2)
    return all([(out, into, said) in book.row(child)[2] for into, out, child in triples])


class WayTree:
    """The ways in a view of doors, as the places of a two-way net in which place 0 has this view."""

    def __init__(self, book, view):
        self.signs = []
        self.roads = []
        # The first place at which the view ends though one may go on, and a door that it can have besides.
        self.end = None
        self.door = None
        came = [(view, NO_DOOR)]
        while len(self.signs) < len(came):
            place = len(self.signs)
            inner, door = came[place]
            rounds, sign, triples = book.row(inner)
            if rounds == 0 and self.end is None:
                self.end = place
                self.door = 1 if door != NO_DOOR and book.word(door) == 0 else 0
            self.signs.append(book.word(sign))
            for into, out, child in triples:
                if into != door:
                    self.roads.extend(both_ways(place, len(came), book.word(into), book.word(out)))
                    came.append((child, out))

    def is_final(self):
        return self.end is None

    def net(self):
        return Net(self.signs, self.roads)


def both_ways(one, other, out, into):
    """A road and its way back."""
    return [(one, other, out, into), (other, one, into, out)]


def joined_trees(trees):
    """The joined net of trees that are led on to one place more, and the places of their views."""
    signs = [""]
    roads = []
    places = []
    for at, tree in enumerate(trees):
        begin = len(signs)
        places.append(begin)
        signs.extend(tree.signs)
        roads.extend([(begin + one, begin + other, out, into) for one, other, out, into in tree.roads])
        roads.extend(both_ways(0, begin + tree.end, at, tree.door))
    return Net(signs, roads), places


def final_of(tree):
    """The one least net of all joined two-way nets that have the final view of this tree."""
    return least_net(tree.net())
