"""Two-way nets in which a view comes to an end."""

from samefromhere.joins import ways_round
from samefromhere.shapes import need_two_way_joined
from samefromhere.turns import half_loops


def is_shut(net):
    need_two_way_joined(net)
    return ways_round(net) == 0 and half_loops(net).count(True) <= 1


def final_after(net):
    need_two_way_joined(net)
    following = {}
    keys = net.road_keys()
    for road in keys:
        following[road] = [later for later in keys if later[0] == road[1] and later[2] != road[3]]
    return [_rounds_from([road for road in keys if road[0] == place], following) for place in range(len(net))]


def _rounds_from(begin, following):
    """One more than the longest way that begins by one of these roads, None if ways have no end: one of more roads
    than there are goes a road twice, and can do so again."""
    row = begin
    rounds = 1
    while row:
        if rounds > len(following):
            return None
        near = {later: True for road in row for later in following[road]}
        row = list(near)
        rounds += 1
    return rounds
