"""Nets: places with signs, and roads with marks at both their ends."""

from samefromhere.basics import Thing, is_number, is_row, read_word
from samefromhere.errors import BadRoads, BadSigns, NoPlace


class Ground(Thing):
    """Places with signs, and roads between them; they never change. Pairs are as those that read them tell."""

    def __init__(self, sign_pairs, road_pairs):
        self._signs = tuple([word for word, _ in sign_pairs])
        self._sign_keys = tuple([key for _, key in sign_pairs])
        self._roads = tuple([road for _, road in road_pairs])
        self._road_keys = tuple([key for key, _ in road_pairs])

    def sign_keys(self):
        """The flat keys of the signs."""
        return list(self._sign_keys)

    def road_keys(self):
        """The roads, ascending, with flat keys for marks."""
        return list(self._road_keys)


class Net(Ground):
    """A net; it never changes."""

    def __init__(self, signs, roads):
        read = read_signs(signs)
        Ground.__init__(self, read, read_roads(roads, len(read)))

    def __len__(self):
        return len(self._signs)

    def __eq__(self, other):
        if not isinstance(other, Net):
            return False
        return self._sign_keys == other._sign_keys and self._road_keys == other._road_keys

    def signs(self):
        return list(self._signs)

    def roads(self):
        return list(self._roads)


def read_signs(signs):
    """The pairs (word, flat key) of a list of signs, not empty."""
    read = read_any_signs(signs)
    if not read:
        raise BadSigns(0)
    return read


def read_any_signs(signs):
    """The pairs (word, flat key) of a list of signs, perhaps empty."""
    if not is_row(signs):
        raise BadSigns(0)
    read = [read_word(sign) for sign in signs]
    for at, pair in enumerate(read):
        if pair is None:
            raise BadSigns(at)
    return read


def read_roads(roads, many):
    """The pairs (road with flat keys, road) of a list of roads between so many places, ascending."""
    if not is_row(roads):
        raise BadRoads(0)
    rows = [_read_road(road, many) for road in roads]
    for at, pair in enumerate(rows):
        if pair is None:
            raise BadRoads(at)
    return sorted(rows, key=lambda pair: pair[0])


def _read_road(thing, many):
    if not is_row(thing) or len(thing) != 4:
        return None
    one, other = thing[:2]
    out, into = [read_word(mark) for mark in thing[2:]]
    if not is_place_of(many, one) or not is_place_of(many, other) or out is None or into is None:
        return None
    return (one, other, out[1], into[1]), (one, other, out[0], into[0])


def is_place_of(many, thing):
    """Whether it is one of so many places."""
    return is_number(thing) and thing < many


def need_place(net, thing):
    if not is_place_of(len(net), thing):
        raise NoPlace(thing)


def roads_in(net, place):
    need_place(net, place)
    return [road for road in net.roads() if road[1] == place]


def roads_out(net, place):
    need_place(net, place)
    return [road for road in net.roads() if road[0] == place]


def marks(net, place):
    found = {}
    need_place(net, place)
    for road, keys in zip(net.roads(), net.road_keys()):
        if road[0] == place:
            found[keys[2]] = road[2]
    return [found[key] for key in sorted(found)]
