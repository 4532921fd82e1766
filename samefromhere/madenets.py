"""Nets that are made of nets."""

from samefromhere.basics import is_row, unlike_fault
from samefromhere.errors import BadNets, BadOrder, BadSigns
from samefromhere.nets import Net, is_place_of, read_signs


def need_nets(nets):
    """A list of its own with the nets of a list."""
    if not is_row(nets) or len(nets) == 0:
        raise BadNets(0)
    for at, net in enumerate(nets):
        if not isinstance(net, Net):
            raise BadNets(at)
    return list(nets)


def renamed(net, order):
    many = len(net)
    fault = unlike_fault(order, lambda thing: is_place_of(many, thing))
    if fault is not None:
        raise BadOrder(fault)
    if len(order) < many:
        raise BadOrder(len(order))
    signs = net.signs()
    moved = list(signs)
    for place, number in enumerate(order):
        moved[number] = signs[place]
    return Net(moved, [(order[one], order[other], out, into) for one, other, out, into in net.roads()])


def beside(nets):
    signs = []
    roads = []
    for net in need_nets(nets):
        ahead = len(signs)
        roads.extend([(ahead + one, ahead + other, out, into) for one, other, out, into in net.roads()])
        signs.extend(net.signs())
    return Net(signs, roads)


def doors_known(net):
    roads = net.roads()
    come = [road[1] for road in roads]
    leave = [road[0] for road in roads]
    signs = [(sign, come.count(place), leave.count(place)) for place, sign in enumerate(net.signs())]
    return Net(signs, roads)


def with_signs(net, signs):
    read_signs(signs)
    if len(signs) != len(net):
        raise BadSigns(min(len(signs), len(net)))
    return Net(signs, net.roads())


def backward(net):
    return Net(net.signs(), [(other, one, into, out) for one, other, out, into in net.roads()])
