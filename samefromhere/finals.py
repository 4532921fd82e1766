"""Ends of plans, and views behind which nothing is open in two-way nets."""

from samefromhere.errors import BadView, OpenView
from samefromhere.kinds import ranks
from samefromhere.leastnets import least_net
from samefromhere.nets import Net
from samefromhere.plans import Asked, begun_states, need_rounds, round_on, ways_of
from samefromhere.views import ViewBook

# By no door one came to the view itself.
NO_DOOR = -1


def ended(net, plan, rounds):
    asked = Asked(plan)
    need_rounds(rounds)
    return ends_of(asked, net, rounds)


def ends_of(asked, net, rounds):
    """Place by place the pair (round, answer) of the end, None where there is none within so many rounds."""
    ways = ways_of(asked, net)
    stand = begun_states(asked, net)
    ends = [_end(asked, 0, state) for state in stand]
    for done in range(1, rounds + 1):
        stand = round_on(asked, stand, ways)
        ends = [_end(asked, done, state) if end is None else end for end, state in zip(ends, stand)]
    return ends


def _end(asked, done, state):
    answer = asked.tell(state)
    return None if answer is None else (done, answer)


def is_view_of_doors(book, view):
    """Whether a view in a book is one of a place of some two-way net: at each place the doors are unlike, and through
    each one hears back what one said."""
    return all([_has_ways_back(book, inner) for inner in book.within(view)])


def _has_ways_back(book, view):
    rounds, _, triples = book.row(view)
    doors = [into for into, _, _ in triples]
    if len(set(doors)) < len(doors):
        return False
    if rounds < 2:
        return True
    said = book.cut(view, rounds - 2)
    return all([(out, into, said) in book.row(child)[2] for into, out, child in triples])


class WayTree:
    """The ways in a view of doors, as the places of a two-way net in which place 0 has this view."""

    def __init__(self, book, view):
        self.tree_signs = []
        self.tree_roads = []
        # The first place at which the view ends though one may go on, and a door that it can have besides.
        self.end = None
        self.door = None
        came = [(view, NO_DOOR)]
        while len(self.tree_signs) < len(came):
            place = len(self.tree_signs)
            inner, door = came[place]
            rounds, sign, triples = book.row(inner)
            if rounds == 0 and self.end is None:
                self.end = place
                self.door = 1 if door != NO_DOOR and book.word(door) == 0 else 0
            self.tree_signs.append(book.word(sign))
            for into, out, child in triples:
                if into != door:
                    self.tree_roads.extend(both_ways(place, len(came), book.word(into), book.word(out)))
                    came.append((child, out))

    def is_final(self):
        return self.end is None

    def net(self):
        return Net(self.tree_signs, self.tree_roads)


def both_ways(one, other, out, into):
    """A road and its way back."""
    return [(one, other, out, into), (other, one, into, out)]


def joined_trees(trees):
    """The joined net of trees that are led on to one place more, and the places of their views."""
    signs = [""]
    roads = []
    places = []
    for at, tree in enumerate(trees):
        begin = len(signs)
        places.append(begin)
        signs.extend(tree.tree_signs)
        roads.extend([(begin + one, begin + other, out, into) for one, other, out, into in tree.tree_roads])
        roads.extend(both_ways(0, begin + tree.end, at, tree.door))
    return Net(signs, roads), places


def final_of(tree):
    """The one least net of all joined two-way nets that have the final view of this tree."""
    return least_net(tree.net())


def is_door_view(thing):
    book = ViewBook()
    seen = book.read(thing)
    return seen is not None and is_view_of_doors(book, seen)


def tree_of(thing):
    """The tree of the ways in any object that is a view of doors."""
    book = ViewBook()
    seen = book.read(thing)
    if seen is None or not is_view_of_doors(book, seen):
        raise BadView(thing)
    return WayTree(book, seen)


def is_final(seen):
    return tree_of(seen).is_final()


def _final_tree(seen):
    tree = tree_of(seen)
    if not tree.is_final():
        raise OpenView(seen)
    return tree


def final_net(seen):
    return final_of(_final_tree(seen))


def open_pair(seen):
    tree = tree_of(seen)
    if tree.is_final():
        return None
    longer, places = joined_trees([tree])
    return [(tree.net(), 0), (longer, places[0])]


def sizes_with(seen):
    net = final_of(_final_tree(seen))
    halves = [one == other and out == into for one, other, out, into in net.roads()]
    return [len(net), 2 * len(net)] if any(halves) else [len(net)]


def twice(seen):
    tree = tree_of(seen)
    if not tree.is_final():
        net, places = joined_trees([tree, tree])
        return net, places[0], places[1]
    # Where the least net has a half loop the tree of the ways has each of its places twice.
    net = tree.net()
    row = ranks(net)
    if row.count(row[0]) == 1:
        return None
    return net, 0, row.index(row[0], 1)
