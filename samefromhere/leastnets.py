"""Least nets, maps, and nets over two nets."""

from samefromhere.alike import alike_pairs, joint_rows
from samefromhere.basics import is_row, lots_of
from samefromhere.kinds import ranks
from samefromhere.madenets import beside
from samefromhere.nets import Net, is_place_of


def pressed_by(net, labels, many):
    """The net with the labels below many as places; to each lead the roads to the first place with this label."""
    signs = net.signs()
    first = [labels.index(label) for label in range(many)]
    roads = [(labels[one], labels[other], out, into) for one, other, out, into in net.roads() if other in first]
    return Net([signs[place] for place in first], roads)


def least_net(net):
    labels = ranks(net)
    return pressed_by(net, labels, max(labels) + 1)


def common_least(nets):
    return least_net(beside(nets))


def roads_to(net, labels):
    """For each place the ascending list of (into, out, label of the sender) of the roads to it, marks as flat keys."""
    rows = [[] for _ in labels]
    for one, other, out, into in net.road_keys():
        rows[other].append((into, out, labels[one]))
    return [sorted(row) for row in rows]


def is_map(net, base, thing):
    if not is_row(thing) or len(thing) != len(net):
        return False
    if not all([is_place_of(len(base), image) for image in thing]):
        return False
    return leads_to(net, base, thing)


def leads_to(net, base, images):
    """Whether places of base, one for each place of net, have its signs and, one to one, its roads in."""
    near = net.sign_keys()
    far = base.sign_keys()
    come = roads_to(net, images)
    there = roads_to(base, list(range(len(base))))
    return all([near[at] == far[image] and come[at] == there[image] for at, image in enumerate(images)])


def maps_over(net, base):
    fitting = [[] for _ in range(len(net))]
    for place, image in alike_pairs(net, base):
        fitting[place].append(image)
    search = MapSearch(net, base, fitting)
    lots = [search.maps_of(lot) for lot in lots_of(len(net), [road[:2] for road in net.roads()])]
    # Nothing is put together in vain where a lot has no map.
    found = [{}] if all(lots) else []
    for parts in lots:
        found = [{**ahead, **part} for ahead in found for part in parts]
    return sorted([[images[place] for place in range(len(net))] for images in found])


class MapSearch:
    """Looks for all maps of places that roads join; such lots are mapped each by itself."""

    def __init__(self, net, base, fitting):
        self._fitting = fitting
        self._near = roads_to(net, list(range(len(net))))
        self._far = roads_to(base, list(range(len(base))))

    def maps_of(self, lot):
        """The list of the dicts from the places of the lot to images."""
        found = [{}]
        order = self._search_order(lot)
        for place in order:
            grown = [{**images, place: image} for images in found for image in self._fitting[place]]
            found = [images for images in grown if self._can_be(images, place)]
        return found

    def _search_order(self, lot):
        """Places that are heard by those ahead come first: they leave the fewest images open."""
        order = [lot[0]]
        while len(order) < len(lot):
            lacking = [place for place in lot if place not in order]
            heard = [place for place in lacking if self._is_heard(place, order)]
            hearing = [place for place in lacking if self._hears(place, order)]
            order.append((heard + hearing)[0])
        return order

    def _is_heard(self, place, order):
        return any([self._hears(other, [place]) for other in order])

    def _hears(self, place, order):
        return any([sender in order for _, _, sender in self._near[place]])

    def _can_be(self, images, place):
        """Whether nothing that is known speaks against the image of the place that was given one last."""
        changed = [other for other in images if other == place or self._hears(other, [place])]
        return all([self._can_hear(images, other) for other in changed])

    def _can_hear(self, images, place):
        known = [(into, out, images[sender]) for into, out, sender in self._near[place] if sender in images]
        there = self._far[images[place]]
        return all([known.count(road) <= there.count(road) for road in known])


def both_over(one, other):
    pairs = alike_pairs(one, other)
    if not pairs:
        return None
    number = {pair: at for at, pair in enumerate(pairs)}
    near, away = joint_rows(one, other)[-1]
    near_lots = _lots_in(one, near)
    away_lots = _lots_in(other, away)
    roads = []
    for p, q in pairs:
        for key, row in near_lots[p].items():
            for road, far_road in zip(row, away_lots[q][key]):
                roads.append((number[road[0], far_road[0]], number[p, q], road[2], road[3]))
    signs = one.signs()
    return Net([signs[p] for p, _ in pairs], roads)


def _lots_in(net, labels):
    """For each place the dict from (out, into, label of the sender) to the roads to it with these, ascending."""
    lots = [{} for _ in labels]
    for road, (sender, place, out, into) in zip(net.roads(), net.road_keys()):
        lots[place].setdefault((out, into, labels[sender]), []).append(road)
    return lots
