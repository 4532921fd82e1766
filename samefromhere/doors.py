"""Shares that are known by doors, and what is known by one number."""

from math import gcd

from samefromhere.basics import is_integer, numbers_fault
from samefromhere.countrows import need_base, targets_of
from samefromhere.errors import BadDoors
from samefromhere.nets import need_place
from samefromhere.turns import need_size


def share_row(base, doors):
    need_base(base)
    fault = numbers_fault(doors, len(base), lambda many: is_integer(many) and many >= 1)
    if fault is not None:
        raise BadDoors(fault)
    many = len(base)
    left = list(doors)
    right = [[row.count(other) for other in range(many)] for row in targets_of(base)]
    for place in range(many - 1):
        if left[place] <= right[place][place]:
            return None
        _put_in(left, right, place)
    if left[-1] != right[-1][-1]:
        return None
    return _back_from_last(left, right)


def _put_in(left, right, place):
    """Each place v has left[v] times its number equal to a sum of right[v][w] times those of w. What this place's
    equation tells of it is put into those behind, multiplied so that all stays whole; nothing falls below 0."""
    own = left[place] - right[place][place]
    left[place] = own
    for behind in range(place + 1, len(left)):
        times = right[behind][place]
        left[behind] *= own
        right[behind] = [own * number + times * put for number, put in zip(right[behind], right[place])]


def _back_from_last(left, right):
    """The numbers, told from the last place on back; each is put ahead such that they have no common divisor."""
    row = [1]
    for place in reversed(range(len(left) - 1)):
        worth = sum([number * many for number, many in zip(right[place][place + 1:], row)])
        times = left[place] // gcd(left[place], worth)
        row = [worth * times // left[place]] + [many * times for many in row]
    return tuple(row)


def ways_to(base, place):
    need_base(base)
    need_place(base, place)
    return _ways(targets_of(base), place)


def _ways(targets, place):
    known = {place: 1}
    for at in _order_to(targets, place)[1:]:
        known[at] = sum([known[other] for other in targets[at]])
    return tuple([known.get(at) for at in range(len(targets))])


def _order_to(targets, place):
    """The places of which all roads lead to places ahead of them here, the given one first; on from those that lack
    one can go round without coming to it."""
    order = [place]
    fresh = [place]
    while fresh:
        fresh = [at for at, row in enumerate(targets)
                 if at not in order and all([other in order for other in row])]
        order.extend(fresh)
    return order


def marked_rows(base, place, many):
    need_base(base)
    need_place(base, place)
    need_size(many)
    targets = targets_of(base)
    order = _order_to(targets, place)
    if len(order) < len(targets):
        return None
    rows = [{place: many}]
    for at in order[1:]:
        rows = [{**row, at: number} for row in rows for number in range(1, _slots(targets[at], row) + 1)]
    fitting = [row for row in rows if many <= _slots(targets[place], row)]
    return sorted([tuple([row[at] for at in range(len(targets))]) for row in fitting])


def _slots(others, row):
    return sum([row[other] for other in others])
