"""How many lifts there are, and how many unlike ones."""

from itertools import permutations
from math import comb, factorial

from samefromhere.basics import power
from samefromhere.joins import need_base_for_turns, ways_round
from samefromhere.lifts import need_copies
from samefromhere.shapes import need_two_way_joined
from samefromhere.turns import half_loops, need_size, need_turns, road_pairs


def count_picks(base, copies):
    need_copies(base, copies)
    found = 1
    for one, other, _, _ in base.roads():
        found *= power(copies[one], copies[other])
    return found


def _swaps_moving(number, moved):
    """How many turns that undo themselves move so many of the copies."""
    return comb(number, moved) * factorial(moved) // factorial(moved // 2) // power(2, moved // 2)


def _count_swaps(number, loops):
    """How many turns a half loop can have."""
    if not loops:
        return 0 if number % 2 == 1 else _swaps_moving(number, number)
    return sum([_swaps_moving(number, moved) for moved in range(0, number + 1, 2)])


def _count_rows(number, loops, rounds, halves):
    """In how many ways so many turns of ways round, and of half loops, can be picked."""
    return power(factorial(number), rounds) * power(_count_swaps(number, loops), halves)


def count_turns(base, number, loops):
    need_base_for_turns(base, number, loops)
    rounds = ways_round(base) + len(base) - 1
    return _count_rows(number, loops, rounds, half_loops(base).count(True))


def count_joined(base, number, loops):
    """Turned along a tree the copies are numbered alike at all places; then what is left joins all or not. Of all
    rows those fall away by which the first copy is joined with fewer."""
    need_base_for_turns(base, number, loops)
    halves = half_loops(base).count(True)
    rounds = ways_round(base)
    whole = [1] + [_count_rows(size, loops, rounds, halves) for size in range(1, number + 1)]
    joined = [0]
    for size in range(1, number + 1):
        less = [comb(size - 1, part - 1) * joined[part] * whole[size - part] for part in range(1, size)]
        joined.append(whole[size] - sum(less))
    return joined[number] * power(factorial(number), len(base) - 1)


def all_turns(base, number, loops):
    need_base_for_turns(base, number, loops)
    found = [()]
    for is_half in half_loops(base):
        turns = _all_swaps(number, loops) if is_half else list(permutations(range(number)))
        found = [row + (turn,) for row in found for turn in turns]
    return found


def _all_swaps(number, loops):
    """All turns of a half loop, ascending: the first copy that has none yet changes places with itself or with one
    behind it."""
    found = [{}]
    for copy in range(number):
        grown = []
        for turn in found:
            if copy in turn:
                grown.append(turn)
            else:
                later = [other for other in range(copy, number) if other not in turn and (loops or other != copy)]
                grown.extend([{**turn, copy: other, other: copy} for other in later])
        found = grown
    return [tuple([turn[copy] for copy in range(number)]) for turn in found]


def are_like(base, number, one, other):
    need_two_way_joined(base)
    need_size(number)
    need_turns(base, number, one)
    need_turns(base, number, other)
    near = _ways(base, number, one)
    away = _ways(base, number, other)
    met = {}
    for copy in range(number):
        if (0, copy) not in met:
            used = {spot: True for spot in met.values()}
            free = [(0, far) for far in range(number) if (0, far) not in used]
            parts = [_matched(near, away, (0, copy), spot) for spot in free]
            fitting = [part for part in parts if part is not None]
            if not fitting:
                return False
            met = {**met, **fitting[0]}
    return True


def _ways(base, number, turns):
    """The dict from each copy (place, number) to where it comes by which end of which pair."""
    ways = {(place, copy): {} for place in range(len(base)) for copy in range(number)}
    for at, ((road, _), turn) in enumerate(zip(road_pairs(base), turns)):
        for begin, end in enumerate(turn):
            ways[road[0], begin][at, 0] = (road[1], end)
            ways[road[1], end][at, 1] = (road[0], begin)
    return ways


def _matched(near, away, start, spot):
    """The dict that leads the part of start, one to one, to that of spot by like ways, None if there is none."""
    met = {start: spot}
    used = {spot: True}
    todo = [start]
    while todo:
        here = todo.pop()
        there = away[met[here]]
        for way, end in near[here].items():
            if end in met:
                if met[end] != there[way]:
                    return None
            elif there[way] in used:
                return None
            else:
                met[end] = there[way]
                used[there[way]] = True
                todo.append(end)
    return met


def _sums_to(number):
    """The dicts {part: how often} that make the number a sum of integers from 1 on."""
    found = [({}, number)]
    for part in range(number, 1, -1):
        grown = []
        for parts, rest in found:
            grown.append((parts, rest))
            grown.extend([({**parts, part: many}, rest - many * part) for many in range(1, rest // part + 1)])
        found = grown
    return [{**parts, 1: rest} for parts, rest in found]


def _commuting(parts):
    """How many rows commute with one whose rounds have these lengths."""
    found = 1
    for part, many in parts.items():
        found *= power(part, many) * factorial(many)
    return found


def _commuting_swaps(parts, loops):
    """How many of these undo themselves: they turn a round by half, or not, or exchange two of one length."""
    found = 1
    for part, many in parts.items():
        alone = (1 if loops else 0) + (1 if part % 2 == 0 else 0)
        ways = [_swaps_moving(many, moved) * power(part, moved // 2) * power(alone, many - moved)
                for moved in range(0, many + 1, 2)]
        found *= sum(ways)
    return found


def _count_unlike_rows(number, loops, rounds, halves):
    """All rows of turns but a tree's, told apart up to numbering anew: the mean, over all ways to number anew, of
    how many rows each leaves as they are."""
    found = 0
    for parts in _sums_to(number):
        commuting = _commuting(parts)
        rows = factorial(number) // commuting
        found += rows * power(commuting, rounds) * power(_commuting_swaps(parts, loops), halves)
    return found // factorial(number)


def count_unlike(base, number, loops):
    need_base_for_turns(base, number, loops)
    return _count_unlike_rows(number, loops, ways_round(base), half_loops(base).count(True))


def count_unlike_joined(base, number, loops):
    """Each lift is made up of joined ones, the order aside; this is undone size by size."""
    need_base_for_turns(base, number, loops)
    rounds = ways_round(base)
    halves = half_loops(base).count(True)
    whole = [1] + [_count_unlike_rows(size, loops, rounds, halves) for size in range(1, number + 1)]
    sums = [0]
    joined = [0]
    for size in range(1, number + 1):
        sums.append(size * whole[size] - sum([sums[part] * whole[size - part] for part in range(1, size)]))
        smaller = [part * joined[part] for part in range(1, size) if size % part == 0]
        joined.append((sums[size] - sum(smaller)) // size)
    return joined[number]
