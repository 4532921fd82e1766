"""Forms: what is known of numbers beforehand, by weights or by count rows that speak against it."""

from itertools import combinations

from samefromhere.basics import fraction, is_integer, is_number, numbers_fault
from samefromhere.countrows import need_base, targets_of
from samefromhere.errors import BadForm


def need_form(base, form):
    fault = numbers_fault(form, len(base), is_integer)
    if fault is not None:
        raise BadForm(fault)


def _value(form, row):
    return sum([number * many for number, many in zip(form, row)])


def _least_rows(base):
    """Rows of numbers from 0 on such that each row that has at each place at most its slots is a sum of multiples of
    these: all places of some lot, but one, have just their slots within it."""
    targets = targets_of(base)
    places = list(range(len(base)))
    found = []
    for size in range(1, len(base) + 1):
        for lot in combinations(places, size):
            inner = {place: [other for other in targets[place] if other in lot] for place in lot}
            for place in lot:
                row = _filled(inner, place)
                if row is not None:
                    found.append(tuple([row.get(at, 0) for at in places]))
    return found


def _filled(inner, place):
    """From 1 at a place on the numbers of the others as their slots; None if they cannot be told so."""
    row = {place: 1}
    grows = True
    while grows:
        grows = False
        for at, others in inner.items():
            if at not in row and others and all([other in row for other in others]):
                row[at] = sum([row[other] for other in others])
                grows = True
    return row if len(row) == len(inner) and inner[place] else None


def _row_against(base, form):
    for row in _least_rows(base):
        worth = _value(form, row)
        if worth < 0 and min(row) > 0:
            return row
        if worth < 0:
            times = max(0, sum(form) // -worth + 1)
            return tuple([many * times + 1 for many in row])
    return None


def row_below(base, form):
    need_base(base)
    need_form(base, form)
    return _row_against(base, form)


def least_weights(base, form):
    need_base(base)
    need_form(base, form)
    if _row_against(base, form) is not None:
        return None
    senders = _senders(base)
    weights = [0] * len(base)
    while True:
        later = [max(0, sum([weights[one] for one in row]) - form[at]) for at, row in enumerate(senders)]
        if later == weights:
            return tuple(weights)
        weights = later


def _senders(base):
    """For each place the list of the senders of its roads in."""
    senders = [[] for _ in range(len(base))]
    for one, other, _, _ in base.roads():
        senders[other].append(one)
    return senders


def are_weights(base, form, thing):
    need_base(base)
    need_form(base, form)
    if numbers_fault(thing, len(base), is_number) is not None:
        return False
    needed = [sum([thing[one] for one in row]) - form[at] for at, row in enumerate(_senders(base))]
    return all([number >= least for number, least in zip(thing, needed)])


def share_bound(base, one, other):
    need_base(base)
    need_form(base, one)
    _need_measure(base, other)
    best = None
    for row in _least_rows(base):
        top = _value(one, row)
        bottom = _value(other, row)
        if bottom == 0 and top > 0:
            return None
        if bottom > 0 and (best is None or top * best[1] > best[0] * bottom):
            best = (top, bottom)
    top, bottom = best
    return fraction(top, bottom)


def _need_measure(base, form):
    fault = numbers_fault(form, len(base), is_number)
    if fault is None and not any([number > 0 for number in form]):
        fault = 0
    if fault is not None:
        raise BadForm(fault)
