"""Partings of the places of a net, and even ones."""

from samefromhere.basics import grouped, is_row, lots_of, numbers_of
from samefromhere.errors import BadParting, NotEven
from samefromhere.kinds import refined
from samefromhere.leastnets import pressed_by, roads_to
from samefromhere.nets import is_place_of
from samefromhere.views import heard_roads


def _parting_fault(net, thing):
    """None, or the index that tells what is wrong with a parting."""
    if not is_row(thing):
        return 0
    ahead = []
    first = -1
    for at, lot in enumerate(thing):
        if not _is_lot(net, lot, ahead) or lot[0] <= first:
            return at
        first = lot[0]
        ahead.extend(lot)
    if len(ahead) < len(net):
        return len(thing)
    return None


def _is_lot(net, thing, ahead):
    """Whether it is an ascending list, not empty, of places none of which stands in a list ahead."""
    if not is_row(thing) or len(thing) == 0:
        return False
    if not all([is_place_of(len(net), place) and place not in ahead for place in thing]):
        return False
    return all([one < other for one, other in zip(thing, thing[1:])])


def need_parting(net, parting):
    fault = _parting_fault(net, parting)
    if fault is not None:
        raise BadParting(fault)


def labels_of(net, parting):
    """For each place the index of its list."""
    labels = [0] * len(net)
    for at, lot in enumerate(parting):
        for place in lot:
            labels[place] = at
    return labels


def _traits(net, labels):
    """For each place what an even parting has alike in one list: the sign, and what comes from which list."""
    return list(zip(net.sign_keys(), roads_to(net, labels)))


def _uneven_pair(net, parting):
    """The first two places in one list that are unlike in sign or roads, None if there are none."""
    labels = labels_of(net, parting)
    traits = _traits(net, labels)
    for one, label in enumerate(labels):
        for other in parting[label]:
            if other > one and traits[other] != traits[one]:
                return one, other
    return None


def is_even(net, thing):
    return _parting_fault(net, thing) is None and _uneven_pair(net, thing) is None


def made_even(net, parting):
    need_parting(net, parting)
    first = numbers_of(list(zip(labels_of(net, parting), net.sign_keys())))
    return grouped(refined(heard_roads(net), first)[-1])


def need_even(net, parting):
    need_parting(net, parting)
    pair = _uneven_pair(net, parting)
    if pair is not None:
        one, other = pair
        raise NotEven(one, other)


def pressed(net, parting):
    need_even(net, parting)
    return pressed_by(net, labels_of(net, parting), len(parting))


def even_partings(net):
    found = [parting for parting in _partings(net.sign_keys()) if _uneven_pair(net, parting) is None]
    return sorted(found, key=lambda parting: (len(parting), parting))


def _partings(signs):
    """All partings into lists of places with equal signs."""
    found = [[]]
    for place, sign in enumerate(signs):
        grown = []
        for parting in found:
            grown.append(parting + [[place]])
            for at, lot in enumerate(parting):
                if signs[lot[0]] == sign:
                    grown.append(parting[:at] + [lot + [place]] + parting[at + 1:])
        found = grown
    return found


def joined_partings(net, one, other):
    need_parting(net, one)
    need_parting(net, other)
    pairs = [(lot[0], place) for parting in (one, other) for lot in parting for place in lot]
    return lots_of(len(net), pairs)
