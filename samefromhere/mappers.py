"""Walkers that know nothing of their net, and draw it: with a mark to lay, and without one."""

from samefromhere.basics import word_key
from samefromhere.errors import NoMove
from samefromhere.finals import both_ways
from samefromhere.finders import is_turn
from samefromhere.leastnets import least_net
from samefromhere.nets import Net, need_place
from samefromhere.plans import need_rounds
from samefromhere.walks import Doors, need_walker


class TurnWanted(Exception):
    """What is known goes no further than to the point where this turn is to be taken."""

    def __init__(self, turn):
        self.turn = turn


class Tape:
    """What a walker has seen so far; its way is gone over once more from the beginning each time."""

    def __init__(self, seen):
        self._seen = seen
        self._at = 0

    def here(self):
        return self._seen[self._at]

    def seen_behind(self, *turn):
        """What was seen behind this turn."""
        if self._at == len(self._seen) - 1:
            raise TurnWanted(turn)
        self._at += 1
        return self.here()


class MarkedWalk:
    """Where a walker stands, and its mark; it carries the mark while that lies nowhere."""

    def __init__(self, net, place):
        self._doors = Doors(net)
        need_place(net, place)
        self._spot = place
        self._came = None
        self._lies = None

    def sees(self):
        return (*self._doors.seen(self._spot, self._came), self._lies == self._spot)

    def take_turn(self, turn):
        if is_turn(turn, "go", 2):
            step = self._doors.behind(self._spot, turn[1])
            if step is None:
                raise NoMove(turn)
            self._spot, self._came = step
            return
        lays = is_turn(turn, "lay", 1)
        if self._lies != (None if lays else self._spot):
            raise NoMove(turn)
        self._lies = self._spot if lays else None
        self._came = None


def _is_marked_turn(thing):
    return is_turn(thing, "go", 2) or is_turn(thing, "lay", 1) or is_turn(thing, "take", 1)


def marked_search(net, place, searcher, turns):
    walk = MarkedWalk(net, place)
    need_walker(searcher)
    need_rounds(turns)
    seen = [walk.sees()]
    while True:
        thing = searcher(tuple(seen))
        if not _is_marked_turn(thing):
            return len(seen) - 1, thing
        if len(seen) > turns:
            return None
        walk.take_turn(thing)
        seen.append(walk.sees())


class Chart:
    """What is known of a net: places, their doors, and where these lead."""

    def __init__(self):
        self._signs = []
        self._doors = []
        self._leads = {}
        self._roads = []

    def add(self, sign, doors):
        """The number of a new place."""
        self._signs.append(sign)
        self._doors.append([(word_key(mark), mark) for mark in doors])
        return len(self._signs) - 1

    def link(self, one, out, other, into):
        """Lets these doors of two places lead to one another; perhaps they are one half loop."""
        ways = both_ways(one, other, out, into)
        is_half = one == other and word_key(out) == word_key(into)
        for near, far, mark, back in ways[:1] if is_half else ways:
            self._leads[near, word_key(mark)] = (far, back)
            self._roads.append((near, far, mark, back))

    def open_door(self, place):
        """The mark of the first door of the place of which nobody knows where it leads, None if there is none."""
        for key, mark in self._doors[place]:
            if (place, key) not in self._leads:
                return mark
        return None

    def led(self, place, mark):
        return self._leads[place, word_key(mark)][0]

    def _first_lead(self, place, met):
        """The triple (mark, place, mark back) of the first door to a place that is not met, None if there is none."""
        for key, mark in self._doors[place]:
            if (place, key) in self._leads and self._leads[place, key][0] not in met:
                return (mark, *self._leads[place, key])
        return None

    def way_to_open(self, place):
        """The pair of the doors to a near place with an open door, and of that place; None if all are known."""
        ways = {place: []}
        todo = [place]
        while todo:
            near = todo.pop(0)
            if self.open_door(near) is not None:
                return ways[near], near
            lead = self._first_lead(near, ways)
            while lead is not None:
                mark, far, _ = lead
                ways[far] = ways[near] + [mark]
                todo.append(far)
                lead = self._first_lead(near, ways)
        return None

    def round_from(self, place):
        """A row of doors through all known places and back."""
        row = []
        met = {place: True}
        path = [(place, None)]
        while path:
            lead = self._first_lead(path[-1][0], met)
            if lead is None:
                row.append(path.pop()[1])
            else:
                mark, far, back = lead
                met[far] = True
                row.append(mark)
                path.append((far, back))
        return row[:-1]

    def net(self):
        return Net(self._signs, self._roads)


def _searcher_by(way):
    """A searcher that goes over its way from the beginning, as far as it has seen what comes there."""
    def searcher(seen):
        try:
            return way(Tape(seen))
        except TurnWanted as wanted:
            return wanted.turn

    return searcher


def mapper():
    return _searcher_by(_map_by_mark)


def _map_by_mark(tape):
    chart = Chart()
    sign, doors, _, _ = tape.here()
    here = chart.add(sign, doors)
    way = chart.way_to_open(here)
    while way is not None:
        row, near = way
        door = chart.open_door(near)
        for mark in row:
            tape.seen_behind("go", mark)
        sign, doors, came, _ = tape.seen_behind("go", door)
        tape.seen_behind("lay")
        here = _look_for_mark(tape, chart, near, tape.seen_behind("go", came))
        if here is None:
            here = chart.add(sign, doors)
            tape.seen_behind("go", door)
        chart.link(near, door, here, came)
        tape.seen_behind("take")
        way = chart.way_to_open(here)
    return "map", chart.net(), here


def _look_for_mark(tape, chart, place, seen):
    """The place where the mark lies, looked for in all that is known from this place on; if it lies in none of them
    one has come back to the place, and None is told."""
    here = place
    row = chart.round_from(place)
    while not seen[3]:
        if not row:
            return None
        mark = row.pop(0)
        seen = tape.seen_behind("go", mark)
        here = chart.led(here, mark)
    return here


def lone_mapper():
    return _searcher_by(_least_by_ways)


def _least_by_ways(tape):
    """Goes all ways that do not lead back, as if each led to a new place: they end in a shut net alone."""
    sign, doors, _ = tape.here()
    signs = [sign]
    roads = []
    path = [(0, list(doors), None)]
    while path:
        place, ahead, back = path[-1]
        if ahead:
            mark = ahead.pop(0)
            sign, doors, came = tape.seen_behind("go", mark)
            roads.extend(both_ways(place, len(signs), mark, came))
            path.append((len(signs), [door for door in doors if word_key(door) != word_key(came)], came))
            signs.append(sign)
        else:
            path.pop()
            if path:
                tape.seen_behind("go", back)
    return "least", least_net(Net(signs, roads))
