"""Ends of plans, and views behind which nothing is open in two-way nets."""

from samefromhere.errors import BadView, OpenView
from samefromhere.kinds import ranks
from samefromhere.plans import Asked, begun_states, need_rounds, round_on, ways_of
from samefromhere.viewbooks import ViewBook
from samefromhere.waytrees import WayTree, final_of, is_view_of_doors, joined_trees


def ended(net, plan, rounds):
    asked = Asked(plan)
    need_rounds(rounds)
    return ends_of(asked, net, rounds)


def ends_of(asked, net, rounds):
    """Place by place the pair (round, answer) of the end, None where there is none within so many rounds."""
    ways = ways_of(asked, net)
    stand = begun_states(asked, net)
    ends = [_end(asked, 0, state) for state in stand]
    for done in range(1, rounds + 1):
        stand = round_on(asked, stand, ways)
        ends = [_end(asked, done, state) if end is None else end for end, state in zip(ends, stand)]
    return ends


def _end(asked, done, state):
    answer = asked.tell(state)
    return None if answer is None else (done, answer)


def is_door_view(thing):
    book = ViewBook()
    seen = book.read(thing)
    return seen is not None and is_view_of_doors(book, seen)


def tree_of(thing):
    """The tree of the ways in any object that is a view of doors."""
    book = ViewBook()
    seen = book.read(thing)
    if seen is None or not is_view_of_doors(book, seen):
        raise BadView(thing)
    return WayTree(book, seen)


def is_final(seen):
    return tree_of(seen).is_final()


def _final_tree(seen):
    tree = tree_of(seen)
    if not tree.is_final():
        raise OpenView(seen)
    return tree


def final_net(seen):
    return final_of(_final_tree(seen))


def open_pair(seen):
    tree = tree_of(seen)
    if tree.is_final():
        return None
    longer, places = joined_trees([tree])
    return [(tree.net(), 0), (longer, places[0])]


def sizes_with(seen):
    net = final_of(_final_tree(seen))
    halves = [one == other and out == into for one, other, out, into in net.roads()]
    return [len(net), 2 * len(net)] if any(halves) else [len(net)]


def twice(seen):
    tree = tree_of(seen)
    if not tree.is_final():
        net, places = joined_trees([tree, tree])
        return net, places[0], places[1]
    # Where the least net has a half loop the tree of the ways has each of its places twice.
    net = tree.net()
    row = ranks(net)
    if row.count(row[0]) == 1:
        return None
    return net, 0, row.index(row[0], 1)
