"""Lifts of two-way nets by turns."""

from samefromhere.basics import is_integer, is_number, list_fault, unlike_fault
from samefromhere.errors import BadNumber, BadTurns
from samefromhere.lifts import copy_numbers, covers, lift_order, need_images
from samefromhere.nets import Net
from samefromhere.shapes import is_two_way, need_two_way_joined


def need_size(number):
    if not is_integer(number) or number < 1:
        raise BadNumber(number)


def road_pairs(base):
    need_two_way_joined(base)
    words = {key: road for key, road in zip(base.road_keys(), base.roads())}
    pairs = []
    for key in base.road_keys():
        back = way_back(key)
        if key <= back:
            pairs.append((words[key], words[back]))
    return pairs


def way_back(road):
    one, other, out, into = road
    return other, one, into, out


def half_loops(base):
    """For each of the road pairs whether it is a half loop."""
    return [road[0] == road[1] and road[2] == road[3] for road, _ in road_pairs(base)]


def need_turns(base, number, turns):
    halves = half_loops(base)
    fault = list_fault(turns, len(halves), lambda at, turn: _is_turn(turn, number, halves[at]))
    if fault is not None:
        raise BadTurns(fault)


def _is_turn(thing, number, is_half):
    fault = unlike_fault(thing, lambda copy: is_number(copy) and copy < number)
    if fault is not None or len(thing) != number:
        return False
    return not is_half or all([thing[copy] == at for at, copy in enumerate(thing)])


def turned_lift(base, number, turns):
    need_two_way_joined(base)
    need_size(number)
    need_turns(base, number, turns)
    signs = [sign for sign in base.signs() for _ in range(number)]
    roads = []
    for ((one, other, out, into), back), is_half, turn in zip(road_pairs(base), half_loops(base), turns):
        for at, copy in enumerate(turn):
            roads.append((one * number + at, other * number + copy, out, into))
            if not is_half:
                roads.append((other * number + copy, one * number + at, back[2], back[3]))
    return Net(signs, roads)


def turns_back(net, base, images):
    need_two_way_joined(base)
    need_images(net, base, images)
    if not is_two_way(net) or not covers(net, base, images):
        return None
    kept = list(images)
    copies = copy_numbers(kept)
    goes = {(one, out): copies[other] for one, other, out, _ in net.road_keys()}
    turns = []
    for key in base.road_keys():
        if key <= way_back(key):
            turns.append(tuple([goes[place, key[2]] for place, image in enumerate(kept) if image == key[0]]))
    number = kept.count(0)
    return number, tuple(lift_order(len(base), kept)), tuple(turns)
