"""Deeds: what is done to the nets of a house."""

from samefromhere.basics import is_number, is_row, read_word, word_key
from samefromhere.errors import LastPlace, NoNet, NoRoad, TakenName
from samefromhere.nets import Net, need_place

# What stands behind the first part of a deed.
DEED_FORMS = {
    "net": ("name", "any", "any"),
    "place": ("name", "word"),
    "sign": ("name", "number", "word"),
    "away": ("name", "number"),
    "road": ("name", "number", "number", "word", "word"),
    "off": ("name", "number", "number", "word", "word"),
    "drop": ("name",),
    "watch": ("any",),
    "hold": ("any",),
    "leave": ("any",),
}
LETTERS = "abcdefghijklmnopqrstuvwxyz"
LONGEST_NAME = 8


def is_name(thing):
    if not isinstance(thing, str) or len(thing) == 0 or len(thing) > LONGEST_NAME:
        return False
    return all([letter in LETTERS for letter in thing])


def is_deed(thing):
    if not is_row(thing) or len(thing) == 0 or not isinstance(thing[0], str):
        return False
    form = DEED_FORMS.get(thing[0])
    if form is None or len(thing) != len(form) + 1:
        return False
    return all([_fits(kind, part) for kind, part in zip(form, thing[1:])])


def _fits(kind, part):
    if kind == "name":
        return is_name(part)
    if kind == "number":
        return is_number(part)
    return kind == "any" or read_word(part) is not None


def changed_nets(nets, deed):
    """The dict of the nets, ascending by names, behind a deed that is done to them."""
    kind = deed[0]
    name = deed[1]
    found = {known: net for known, net in nets.items()}
    if kind == "net":
        if name in nets:
            raise TakenName(name)
        found[name] = Net(deed[2], deed[3])
        return {known: found[known] for known in sorted(found)}
    if name not in nets:
        raise NoNet(name)
    if kind == "drop":
        del found[name]
    else:
        found[name] = _changed_net(nets[name], deed)
    return found


def _changed_net(net, deed):
    signs = net.signs()
    roads = net.roads()
    kind = deed[0]
    if kind == "place":
        return Net(signs + [deed[2]], roads)
    need_place(net, deed[2])
    if kind == "sign":
        signs[deed[2]] = deed[3]
        return Net(signs, roads)
    if kind == "away":
        return _without_place(net, deed[2])
    need_place(net, deed[3])
    road = read_word(deed[2:])[0]
    if kind == "road":
        return Net(signs, roads + [road])
    return _without_road(net, road)


def _without_place(net, place):
    if len(net) == 1:
        raise LastPlace()
    signs = net.signs()
    del signs[place]
    roads = []
    for one, other, out, into in net.roads():
        if one != place and other != place:
            roads.append((one - 1 if one > place else one, other - 1 if other > place else other, out, into))
    return Net(signs, roads)


def _without_road(net, road):
    """The road is a tuple of words throughout."""
    one, other, out, into = road
    keys = net.road_keys()
    key = (one, other, word_key(out), word_key(into))
    if key not in keys:
        raise NoRoad(road)
    roads = net.roads()
    del roads[keys.index(key)]
    return Net(net.signs(), roads)
