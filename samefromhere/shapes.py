"""Shapes of nets: two-way, joined, strong."""

from samefromhere.basics import lots_of
from samefromhere.errors import NotJoined, NotStrong, NotTwoWay


def is_two_way(net):
    roads = net.road_keys()
    doors = {(one, out): True for one, other, out, into in roads}
    known = {road: True for road in roads}
    if len(doors) < len(roads):
        return False
    return all([(other, one, into, out) in known for one, other, out, into in roads])


def is_joined(net):
    return len(lots_of(len(net), [road[:2] for road in net.roads()])) == 1


def is_strong(net):
    pairs = [road[:2] for road in net.roads()]
    turned = [(other, one) for one, other in pairs]
    many = len(net)
    return len(reached(many, pairs, 0)) == many and len(reached(many, turned, 0)) == many


def reached(many, pairs, start):
    """The dict of the numbers below many to which pairs, as they go, lead from start, itself too."""
    following = [[] for _ in range(many)]
    for one, other in pairs:
        following[one].append(other)
    found = {start: True}
    todo = [start]
    while todo:
        for near in following[todo.pop()]:
            if near not in found:
                found[near] = True
                todo.append(near)
    return found


def need_two_way(net):
    if not is_two_way(net):
        raise NotTwoWay(net)


def need_two_way_joined(net):
    need_two_way(net)
    if not is_joined(net):
        raise NotJoined(net)


def need_strong_with_road(net):
    """One place without roads leads nowhere; no lift of it can be strong."""
    if not is_strong(net) or len(net.roads()) == 0:
        raise NotStrong(net)
