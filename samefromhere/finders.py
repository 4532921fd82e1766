"""Searchers: a walker that finds out in which of several nets it stands, and where."""

from samefromhere.basics import is_row
from samefromhere.errors import NoMove
from samefromhere.madenets import need_nets
from samefromhere.nets import need_place
from samefromhere.plans import need_rounds
from samefromhere.shapes import need_two_way_joined
from samefromhere.walks import Doors, came_key, look_key, need_walker


def is_turn(thing, name, many):
    """Whether any object is a row of so many things that begins with this name."""
    return is_row(thing) and len(thing) == many and isinstance(thing[0], str) and thing[0] == name


def search(net, place, searcher, moves):
    doors = Doors(net)
    need_place(net, place)
    need_walker(searcher)
    need_rounds(moves)
    spot = place
    seen = [doors.seen(spot, None)]
    while True:
        thing = searcher(tuple(seen))
        if not is_turn(thing, "go", 2):
            return len(seen) - 1, thing
        if len(seen) > moves:
            return None
        step = doors.behind(spot, thing[1])
        if step is None:
            raise NoMove(thing[1])
        spot, came = step
        seen.append(doors.seen(spot, came))


class LotSearch:
    """What one knows who walks in one of several nets: the lot of the spots, pairs (net, place), where one may be."""

    def __init__(self, nets):
        self.spots = []
        self._looks = []
        self._words = {}
        self._leads = []
        for index, net in enumerate(nets):
            self._add_net(index, net)
        self._best = {}
        begun = {}
        for spot, look in enumerate(self._looks):
            begun.setdefault(look, []).append(spot)
        self._begun = {look: tuple(lot) for look, lot in begun.items()}
        self._solve()

    def _add_net(self, index, net):
        doors = Doors(net)
        ahead = len(self.spots)
        for place, sign in enumerate(net.signs()):
            leads = {}
            for mark in doors.marks_at(place):
                other, came = doors.behind(place, mark)
                self._words[came_key(mark)] = mark
                leads[came_key(mark)] = (ahead + other, came_key(came))
            self.spots.append((index, place))
            self._looks.append(look_key(sign, doors.marks_at(place)))
            self._leads.append(leads)

    def _parts(self, lot, door):
        """The dict from what may be seen behind a door to the lots that are left then."""
        parts = {}
        for spot in lot:
            other, came = self._leads[spot][door]
            parts.setdefault((self._looks[other], came), []).append(other)
        return {seen: tuple(sorted(part)) for seen, part in parts.items()}

    def _solve(self):
        """Finds for each lot in how few moves, and by which door first, one comes to lots of one spot."""
        waiting = {}
        todo = list(self._begun.values())
        while todo:
            lot = todo.pop()
            if lot not in waiting:
                waiting[lot] = {door: list(self._parts(lot, door).values()) for door in self._leads[lot[0]]}
                todo.extend([part for parts in waiting[lot].values() for part in parts])
        moves = 0
        fresh = {lot: None for lot in waiting if len(lot) == 1}
        while fresh:
            self._best.update({lot: (moves, door) for lot, door in fresh.items()})
            fresh = {}
            for lot, ways in waiting.items():
                fitting = [door for door, parts in ways.items() if all([part in self._best for part in parts])]
                if lot not in self._best and fitting:
                    fresh[lot] = fitting[0]
            moves += 1

    def moves(self):
        """The least number of moves within which one always knows where one is, None if there is none."""
        if not all([lot in self._best for lot in self._begun.values()]):
            return None
        return max([self._best[lot][0] for lot in self._begun.values()])

    def begun(self, sign, doors):
        """The lot of one who sees this at the beginning, () for what is never seen."""
        return self._begun.get(look_key(sign, doors), ())

    def best_door(self, lot):
        """The mark of the best door of a lot of several spots."""
        return self._words[self._best[lot][1]]

    def later(self, lot, seen):
        """The lot that is left of one of several spots by what is seen behind its best door, () for none."""
        sign, doors, came = seen
        return self._parts(lot, self._best[lot][1]).get((look_key(sign, doors), came_key(came)), ())


def _need_joined_nets(nets):
    kept = need_nets(nets)
    for net in kept:
        need_two_way_joined(net)
    return kept


def finder(nets):
    known = LotSearch(_need_joined_nets(nets))
    if known.moves() is None:
        return None

    def searcher(seen):
        sign, doors, _ = seen[0]
        lot = known.begun(sign, doors)
        for later in seen[1:]:
            if len(lot) > 1:
                lot = known.later(lot, later)
        if len(lot) > 1:
            return "go", known.best_door(lot)
        return ("here", *known.spots[lot[0]]) if lot else None

    return searcher


def fewest_moves(nets):
    return LotSearch(_need_joined_nets(nets)).moves()
