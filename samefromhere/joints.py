"""Nets that have several views at once, or cannot have them."""

from samefromhere.basics import is_row
from samefromhere.errors import BadViews
from samefromhere.finals import WayTree, final_of, is_view_of_doors, joined_trees
from samefromhere.nets import Net
from samefromhere.views import ViewBook


def _read_views(book, views, of_doors):
    """The numbers of a list of views; of_doors tells whether just those of two-way nets will do."""
    if not is_row(views) or len(views) == 0:
        raise BadViews(0)
    found = []
    for at, thing in enumerate(views):
        seen = book.read(thing)
        if seen is None or of_doors and not is_view_of_doors(book, seen):
            raise BadViews(at)
        found.append(seen)
    return found


class Joint:
    """Views of doors in a book, and what is known by those of them that are final."""

    def __init__(self, book, views):
        self._book = book
        self._views = views
        self._trees = {seen: WayTree(book, seen) for seen in views}
        self._finals = {seen: final_of(tree) for seen, tree in self._trees.items() if tree.is_final()}

    def _places(self, net, seen):
        """The places of a net that have a view."""
        row = self._book.views_of(net, self._book.rounds(seen))
        return [place for place, view in enumerate(row) if view == seen]

    def clash(self, one, other):
        """Whether the view one is final and its net has no place with the view other."""
        return one in self._finals and not self._places(self._finals[one], other)

    def first_clash(self):
        for i, one in enumerate(self._views):
            for j, other in enumerate(self._views):
                if self.clash(one, other):
                    return i, j
        return None

    def net_of(self, views):
        """A joined net, and a place of it for each of these views, no two of which clash."""
        for seen in views:
            if seen in self._finals:
                net = self._finals[seen]
                return net, [self._places(net, other)[0] for other in views]
        return joined_trees([self._trees[seen] for seen in views])


def joint_net(views):
    book = ViewBook()
    seen = _read_views(book, views, True)
    joint = Joint(book, seen)
    return None if joint.first_clash() is not None else joint.net_of(seen)


def views_clash(views):
    book = ViewBook()
    return Joint(book, _read_views(book, views, True)).first_clash()


def strong_net(views):
    book = ViewBook()
    seen = _read_views(book, views, False)
    rows = [book.row(view) for view in seen]
    if not any([triples for _, _, triples in rows]) and len(set([sign for _, sign, _ in rows])) == 1:
        return Net([book.word(rows[0][1])], []), [0] * len(seen)
    inner = sorted(set([view for one in seen for view in book.within(one)]))
    number = {view: place for place, view in enumerate(inner)}
    roads = []
    for place, view in enumerate(inner):
        rounds, _, triples = book.row(view)
        if rounds > 0 and not triples:
            return None
        roads.extend([(number[child], place, book.word(out), book.word(into)) for into, out, child in triples])
        if rounds == 0:
            # What a view of 0 rounds hears is open: so all it hears is the views that were asked.
            roads.extend([(number[one], place, "", "") for one in sorted(set(seen))])
    return Net([book.word(book.row(view)[1]) for view in inner], roads), [number[view] for view in seen]
