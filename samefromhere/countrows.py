"""Bases, and the count rows of nets over them."""

from samefromhere.alike import joint_rows
from samefromhere.basics import is_integer, is_row
from samefromhere.errors import BadBase, NotOver
from samefromhere.joins import strong_lift
from samefromhere.kinds import kinds_for_ever
from samefromhere.lifts import lift
from samefromhere.nets import Net
from samefromhere.plans import need_rounds
from samefromhere.shapes import is_strong


def need_base(thing):
    if not is_base(thing):
        raise BadBase(thing)


def is_base(thing):
    if not isinstance(thing, Net) or len(thing.roads()) == 0 or not is_strong(thing):
        return False
    return len(kinds_for_ever(thing)) == len(thing)


def targets_of(base):
    """For each place the list of the places to which roads lead from it, one for each road."""
    targets = [[] for _ in range(len(base))]
    for one, other, _, _ in base.roads():
        targets[one].append(other)
    return targets


def count_row(net, base):
    need_base(base)
    row = row_over(net, base)
    if row is None:
        raise NotOver()
    return row


def row_over(net, base):
    """The count row of a net, None if it is not over the base."""
    near, away = joint_rows(net, base)[-1]
    if not is_strong(net) or sorted(set(near)) != sorted(away):
        return None
    return tuple([near.count(rank) for rank in away])


def is_count_row(base, thing):
    need_base(base)
    return is_row_of_counts(base, thing)


def is_row_of_counts(base, thing):
    """Whether any object is a count row of what is known to be a base."""
    if not is_row(thing) or len(thing) != len(base):
        return False
    if not all([is_integer(many) and many >= 1 for many in thing]):
        return False
    return all([thing[at] <= sum([thing[other] for other in row]) for at, row in enumerate(targets_of(base))])


def count_rows(base, most):
    need_base(base)
    need_rounds(most)
    rows = [()]
    for left in reversed(range(len(base))):
        rows = [row + (many,) for row in rows for many in range(1, most - sum(row) - left + 1)]
    return [row for row in rows if is_row_of_counts(base, row)]


def net_of_row(base, row):
    """The net that a count row has: its copies of place 0 first, then of 1, .."""
    return lift(base, row, strong_lift(base, row))
