"""Lifts in one piece, and strong ones."""

from samefromhere.basics import lots_of
from samefromhere.errors import BadLoops
from samefromhere.lifts import first_copies, lift, need_copies
from samefromhere.nets import roads_in
from samefromhere.shapes import need_strong_with_road, need_two_way_joined, reached
from samefromhere.turns import half_loops, need_size, road_pairs


def joined_parts(net):
    return lots_of(len(net), [road[:2] for road in net.roads()])


def need_loops(loops):
    if not isinstance(loops, bool):
        raise BadLoops(loops)


def need_base_for_turns(base, number, loops):
    need_two_way_joined(base)
    need_size(number)
    need_loops(loops)


def ways_round(base):
    return half_loops(base).count(False) - len(base) + 1


def joined_lift(base, number, loops):
    need_base_for_turns(base, number, loops)
    halves = half_loops(base).count(True)
    if halves > 0 and number % 2 == 1 and not loops:
        return None
    if ways_round(base) == 0 and halves <= 1 and number > halves + 1:
        return None
    shift = tuple([(copy + 1) % number for copy in range(number)])
    swaps = _swaps(number)
    turns = []
    met = 0
    for is_half, is_way_round in zip(half_loops(base), _are_ways_round(base)):
        if is_half:
            turns.append(swaps[min(met, 1)])
            met += 1
        else:
            turns.append(shift if is_way_round else tuple(range(number)))
    return tuple(turns)


def _swaps(number):
    """Two turns for half loops that lead, one behind the other, through all copies: 0 and 1, 2 and 3, .. change
    places, or 1 and 2, 3 and 4, .. do; the latter has the last and the first change, too, if there are two left."""
    even = [copy + 1 - copy % 2 * 2 for copy in range(number)]
    odd = [copy - 1 + copy % 2 * 2 for copy in range(number)]
    if number % 2 == 1:
        even[number - 1] = number - 1
        odd[0] = 0
    else:
        odd[0] = number - 1
        odd[number - 1] = 0
    return [tuple(even), tuple(odd)]


def _are_ways_round(base):
    """For each of the road pairs whether those ahead of it join both its ends already, half loops aside."""
    told = []
    label = list(range(len(base)))
    for (road, _), is_half in zip(road_pairs(base), half_loops(base)):
        one, other = label[road[0]], label[road[1]]
        told.append(one == other and not is_half)
        label = [one if at == other else at for at in label]
    return told


def lone_place(base, copies):
    need_strong_with_road(base)
    need_copies(base, copies)
    for place, many in enumerate(copies):
        if many > sum([copies[other] for one, other, _, _ in base.roads() if one == place]):
            return place
    return None


def strong_lift(base, copies):
    if lone_place(base, copies) is not None:
        return None
    picks = _all_heard(base, copies)
    while True:
        pairs = [road[:2] for road in lift(base, copies, picks).roads()]
        part = _part_alone(sum(copies), pairs)
        if part is None:
            return tuple([tuple([tuple(row) for row in rows]) for rows in picks])
        _exchange(base, copies, picks, part)


def _all_heard(base, copies):
    """Picks by which each copy is heard: those who hear a place pick its copies in turn."""
    heard = [0] * len(base)
    picks = []
    for place, many in enumerate(copies):
        rows = []
        for _ in range(many):
            row = []
            for sender, _, _, _ in roads_in(base, place):
                row.append(heard[sender] % copies[sender])
                heard[sender] += 1
            rows.append(row)
        picks.append(rows)
    return picks


def _part_alone(many, pairs):
    """The dict of the copies of a part that hears of itself alone, None if there is but one part."""
    turned = [(other, one) for one, other in pairs]
    least = None
    for copy in range(many):
        part = reached(many, turned, copy)
        if least is None or len(part) < len(least):
            least = part
    return None if len(least) == many else least


def _exchange(base, copies, picks, part):
    """A ring of the others leads by a road of the base, over which the part has a road, too: exchanging both
    picks makes a ring of both, and parts nothing, as each road that is lost is gone round."""
    begin = first_copies(copies)
    place, at, copy = _ring_pick(base, copies, picks, part)
    for other in range(copies[place]):
        if begin[place] + other in part:
            picks[place][copy][at], picks[place][other][at] = picks[place][other][at], picks[place][copy][at]
            return


def _ring_pick(base, copies, picks, part):
    """A pick of a ring of copies that are not in the part: (place, index of the road, copy)."""
    begin = first_copies(copies)
    goes = {}
    for place, rows in enumerate(picks):
        come = roads_in(base, place)
        for copy, row in enumerate(rows):
            for at, pick in enumerate(row):
                goes[begin[come[at][0]] + pick] = (place, at, copy)
    spot = min([number for number in range(sum(copies)) if number not in part])
    for _ in range(sum(copies)):
        place, at, copy = goes[spot]
        spot = begin[place] + copy
    return goes[spot]
