"""Two walkers with one plan, and how unlike ones meet."""

from samefromhere.errors import NoMove
from samefromhere.finders import LotSearch
from samefromhere.kinds import ranks
from samefromhere.leastnets import least_net
from samefromhere.nets import need_place
from samefromhere.plans import need_rounds
from samefromhere.shapes import need_two_way_joined
from samefromhere.walks import Doors, need_walker, seen_key


def two_walk(net, plan, one, other, moves):
    doors = Doors(net)
    need_walker(plan)
    need_place(net, one)
    need_place(net, other)
    need_rounds(moves)
    pairs = [(one, other)]
    seen = [doors.seen(one, None)]
    far_seen = [doors.seen(other, None)]
    # Who have seen the same so far are asked together.
    same = seen_key(seen[0]) == seen_key(far_seen[0])
    while pairs[-1][0] != pairs[-1][1] and len(pairs) <= moves:
        move = plan(tuple(seen))
        spot, came = _gone(doors, pairs[-1][0], move)
        far_move = move if same else plan(tuple(far_seen))
        far, far_came = _gone(doors, pairs[-1][1], far_move)
        pairs.append((spot, far))
        seen.append(doors.seen(spot, came))
        far_seen.append(doors.seen(far, far_came))
        same = same and seen_key(seen[-1]) == seen_key(far_seen[-1])
    return pairs


def _gone(doors, place, move):
    step = doors.behind(place, move)
    if step is None:
        raise NoMove(move)
    return step


def meeting_plan(net):
    need_two_way_joined(net)
    # Walkers see the same in the net and in its least net, where no two places are alike.
    least = least_net(net)
    known = LotSearch([least])
    doors = Doors(least)
    rows = []
    ends = []
    for kind in range(len(least)):
        row, end = _row_to_find(known, doors, kind)
        rows.append(row)
        ends.append(end)
    moves = known.moves()
    rows = [row + [None] * (moves - len(row)) for row in rows]
    tours = Tours(net)
    for kind, end in enumerate(ends):
        tour = tours.tour(end)
        rows = [row + (tour if at == kind else [None] * len(tour)) for at, row in enumerate(rows)]
        moves += len(tour)
    return _plan_by_rows(rows, [_keys_along(doors, kind, row) for kind, row in enumerate(rows)]), moves


def _row_to_find(known, doors, kind):
    """The row of doors by which one who begins at a place of this kind finds it out, and the kind where one ends."""
    row = []
    spot = kind
    sign, shown, came = doors.seen(spot, None)
    lot = known.begun(sign, shown)
    while len(lot) > 1:
        row.append(known.best_door(lot))
        spot, came = doors.behind(spot, row[-1])
        lot = known.later(lot, doors.seen(spot, came))
    return row, spot


class Tours:
    """Ways through all of a net."""

    def __init__(self, net):
        self._doors = Doors(net)
        self._ranks = ranks(net)

    def tour(self, kind):
        """A row of doors by which one comes to all places, from whichever place of this kind one begins."""
        row = []
        for start, rank in enumerate(self._ranks):
            if rank == kind:
                met, spot = self._met(start, row)
                while len(met) < len(self._ranks):
                    row = row + self._way_on(spot, met)
                    met, spot = self._met(start, row)
        return row

    def _met(self, start, row):
        """The dict of the places met from a place along a row of doors, and where one stands then."""
        spot = start
        met = {spot: True}
        for mark in row:
            spot = self._doors.behind(spot, mark)[0]
            met[spot] = True
        return met, spot

    def _way_on(self, spot, met):
        """The first shortest row of doors to a place that is not met."""
        ways = {spot: []}
        todo = [spot]
        while todo[0] in met:
            near = todo.pop(0)
            for mark in self._doors.marks_at(near):
                far = self._doors.behind(near, mark)[0]
                if far not in ways:
                    ways[far] = ways[near] + [mark]
                    todo.append(far)
        return ways[todo[0]]


def _keys_along(doors, place, row):
    """The keys of what one sees along a row of moves."""
    spot = place
    keys = [seen_key(doors.seen(spot, None))]
    for move in row:
        spot, came = doors.behind(spot, move)
        keys.append(seen_key(doors.seen(spot, came)))
    return keys


def _plan_by_rows(rows, keys):
    """Who has seen what the walker of a kind sees goes by its row; as long as several have seen the same, their rows
    are the same."""
    def plan(seen):
        done = len(seen) - 1
        told = [seen_key(item) for item in seen]
        for row, line in zip(rows, keys):
            if line[:done + 1] == told:
                return row[done] if done < len(row) else None
        return None

    return plan
