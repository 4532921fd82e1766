"""Alike places of lists of nets."""

from samefromhere.basics import first_labels, grouped
from samefromhere.kinds import rank_rows, ranks_behind, rounds_needed
from samefromhere.madenets import beside, need_nets
from samefromhere.plans import need_rounds


def kind_numbers(nets, row):
    """For each net the list of the numbers of its places' kinds, which are numbered by their first pairs; row has
    the ranks of the places of all nets side by side."""
    numbers = first_labels(row)
    found = []
    ahead = 0
    for net in nets:
        found.append(numbers[ahead:ahead + len(net)])
        ahead += len(net)
    return found


def kind_rows(nets, rounds):
    """These numbers behind so many rounds, None being for ever."""
    return kind_numbers(nets, ranks_behind(rank_rows(beside(nets)), rounds))


def kinds_of(nets, rounds):
    kept = need_nets(nets)
    need_rounds(rounds)
    pairs = [(index, place) for index, net in enumerate(kept) for place in range(len(net))]
    lots = grouped([number for row in kind_rows(kept, rounds) for number in row])
    return [[pairs[at] for at in lot] for lot in lots]


def rounds_of(nets):
    return rounds_needed(beside(nets))


def parted_nets(nets, rounds):
    kept = need_nets(nets)
    need_rounds(rounds)
    rows = kind_rows(kept, rounds)
    many = range(len(rows))
    return [(i, j) for i in many for j in many if i < j and not any([kind in rows[j] for kind in rows[i]])]
