"""Periods of rings, and what is read going round."""

from samefromhere.errors import BadDoor, NoPlace
from samefromhere.kinds import rounds_needed
from samefromhere.nets import is_place_of
from samefromhere.plans import need_rounds
from samefromhere.rings import is_door, need_pattern, one_way_ring, sign_words


def period_of(row):
    """The least number from 1 on that divides how many things a row has and behind which each comes again."""
    many = len(row)
    for step in range(1, many):
        if many % step == 0 and row[step:] + row[:step] == row:
            return step
    return many


def least_period(signs):
    return period_of(sign_words(signs))


def ring_rounds(signs):
    return rounds_needed(one_way_ring(signs))


def reading(signs, senses, start, door, steps):
    pattern = need_pattern(signs, senses)
    if not is_place_of(len(pattern), start):
        raise NoPlace(start)
    if not is_door(door):
        raise BadDoor(door)
    need_rounds(steps)
    return _read_on(pattern, start, door, steps)


def _read_on(pattern, start, door, steps):
    """Who goes on by the other door each time goes on in one sense."""
    many = len(pattern)
    leads_on = door == pattern[start][1]
    row = []
    for step in range(steps + 1):
        sign, sense = pattern[(start + step) % many if leads_on else (start - step) % many]
        row.append((sign, sense if leads_on else 1 - sense))
    return row


def alike_around(one, other):
    pattern, place = _read_ring_place(one)
    far_pattern, far = _read_ring_place(other)
    steps = len(pattern) + len(far_pattern)
    return _read_on(pattern, place, 0, steps) == _read_on(far_pattern, far, 0, steps)


def _read_ring_place(triple):
    signs, senses, place = triple
    pattern = need_pattern(signs, senses)
    if not is_place_of(len(pattern), place):
        raise NoPlace(place)
    return pattern, place
