"""Kinds of places of rows of nets, and least rows."""

from samefromhere.basics import grouped, numbers_of
from samefromhere.kinds import next_ranks
from samefromhere.leastnets import is_map, pressed_by
from samefromhere.netrows import need_net_row
from samefromhere.plans import need_rounds
from samefromhere.views import heard_roads


def ranks_by_round(row, most):
    """The lists of the ranks behind 0, 1, .. rounds, until as many rounds one behind another as the row has nets
    part nothing, so that nothing is parted any more, or until so many rounds (None for no bound) are done. The last
    round that is told is one that parts, if there is one."""
    heard = [heard_roads(net) for net in row]
    lines = [numbers_of(row[0].sign_keys())]
    idle = 0
    while idle < len(row) and (most is None or len(lines) + idle <= most):
        later = next_ranks(heard[(len(lines) + idle - 1) % len(row)], lines[-1])
        if max(later) == max(lines[-1]):
            idle += 1
        else:
            lines.extend([lines[-1]] * idle + [later])
            idle = 0
    return lines


def row_kinds(row, rounds):
    kept = need_net_row(row)
    need_rounds(rounds)
    return grouped(ranks_by_round(kept, rounds)[-1])


def row_kinds_for_ever(row):
    return grouped(row_ranks(row))


def row_rounds(row):
    return len(ranks_by_round(need_net_row(row), None)) - 1


def row_ranks(row):
    return list(ranks_by_round(need_net_row(row), None)[-1])


def least_row(row):
    labels = row_ranks(row)
    return [pressed_by(net, labels, max(labels) + 1) for net in row]


def is_row_map(row, base, thing):
    near = need_net_row(row)
    far = need_net_row(base)
    return len(near) == len(far) and all([is_map(net, other, thing) for net, other in zip(near, far)])
