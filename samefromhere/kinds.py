"""Kinds: places with equal views, told without writing views, which grow."""

from samefromhere.basics import grouped, numbers_of
from samefromhere.plans import need_rounds
from samefromhere.views import heard_roads


def next_ranks(heard, row):
    """The row of ranks behind one round more."""
    pairs = []
    for place, rank in enumerate(row):
        triples = [(into, out, row[sender]) for into, out, sender, _ in heard[place]]
        pairs.append((rank, tuple(sorted(triples))))
    return numbers_of(pairs)


def refined(heard, first):
    """The rows of ranks behind 0, 1, .. rounds, from this first one on, until a round parts nothing more, heard being
    what comes to each place."""
    rows = [first]
    while True:
        later = next_ranks(heard, rows[-1])
        if max(later) == max(rows[-1]):
            return rows
        rows.append(later)


def rank_rows(net):
    """The rows of ranks of the net's places, from the signs on."""
    return refined(heard_roads(net), numbers_of(net.sign_keys()))


def ranks_behind(rows, rounds):
    """Of such rows the one behind so many rounds, None being for ever; the last one stays."""
    if rounds is None or rounds >= len(rows):
        return rows[-1]
    return rows[rounds]


def kinds(net, rounds):
    need_rounds(rounds)
    return grouped(ranks_behind(rank_rows(net), rounds))


def kinds_for_ever(net):
    return grouped(rank_rows(net)[-1])


def rounds_needed(net):
    return len(rank_rows(net)) - 1


def ranks(net):
    return list(rank_rows(net)[-1])
