"""Rows of nets: in each round letters go by the roads of the next net."""

from samefromhere.basics import is_row, numbers_of
from samefromhere.errors import BadNetRow
from samefromhere.nets import Net, need_place
from samefromhere.plans import Asked, begun_states, need_rounds, round_on, ways_of
from samefromhere.views import heard_roads, triples_heard


def net_row_fault(thing):
    """None, or the index that tells what is wrong with a row of nets."""
    if not is_row(thing) or len(thing) == 0:
        return 0
    for at, net in enumerate(thing):
        if not isinstance(net, Net) or net.sign_keys() != thing[0].sign_keys():
            return at
    return None


def need_net_row(row):
    """A list of its own with the nets of a row."""
    fault = net_row_fault(row)
    if fault is not None:
        raise BadNetRow(fault)
    return list(row)


def _run_row(asked, row, rounds):
    """The numbers of the states behind so many rounds."""
    stand = begun_states(asked, row[0])
    ways = [ways_of(asked, net) for net in row]
    for done in range(rounds):
        stand = round_on(asked, stand, ways[done % len(row)])
    return stand


def row_states(row, plan, rounds):
    kept = need_net_row(row)
    asked = Asked(plan)
    need_rounds(rounds)
    return [asked.word(state) for state in _run_row(asked, kept, rounds)]


def row_answers(row, plan, rounds):
    kept = need_net_row(row)
    asked = Asked(plan)
    need_rounds(rounds)
    return answers_of_row(asked, kept, rounds)


def answers_of_row(asked, row, rounds):
    """What the places tell behind so many rounds."""
    return [asked.tell(state) for state in _run_row(asked, row, rounds)]


def row_view(row, place, rounds):
    kept = need_net_row(row)
    need_place(kept[0], place)
    need_rounds(rounds)
    seen = [(0, sign, ()) for sign in kept[0].signs()]
    order = numbers_of(kept[0].sign_keys())
    heard = [heard_roads(net) for net in kept]
    for done in range(rounds):
        triples, keys = triples_heard(heard[done % len(kept)], seen, order)
        seen = [(done + 1, own, triples[at]) for at, own in enumerate(seen)]
        order = numbers_of(list(zip(order, keys)))
    return seen[place]
