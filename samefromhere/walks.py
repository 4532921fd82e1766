"""Walkers: who stands at a place of a two-way net, sees its sign and its doors, and goes by them."""

from samefromhere.basics import is_function, is_row, read_word, word_key
from samefromhere.errors import BadWalk, BadWalker
from samefromhere.nets import marks, need_place
from samefromhere.shapes import need_two_way


class Doors:
    """The doors of a two-way net, and where they lead."""

    def __init__(self, net):
        need_two_way(net)
        self._signs = net.signs()
        self._marks = [tuple(marks(net, place)) for place in range(len(net))]
        self._leads = {}
        for road, (one, _, out, _) in zip(net.roads(), net.road_keys()):
            self._leads[one, out] = (road[1], road[3])

    def marks_at(self, place):
        """The tuple of the marks of a place, ascending."""
        return self._marks[place]

    def seen(self, place, came):
        """What a walker sees there that came in by this mark."""
        return self._signs[place], self._marks[place], came

    def behind(self, place, move):
        """The pair (place, mark by which one came in) behind any object that is a move there, None if it is none."""
        if move is None:
            return place, None
        read = read_word(move)
        return None if read is None else self._leads.get((place, read[1]))


def look_key(sign, doors):
    """What tells a place's sign and its marks."""
    return word_key(sign), word_key(doors)


def came_key(came):
    return None if came is None else word_key(came)


def seen_key(seen):
    sign, doors, came = seen
    return look_key(sign, doors), came_key(came)


def need_walker(thing):
    if not is_function(thing):
        raise BadWalker(thing)


def steps_along(doors, place, row):
    """The pairs (place, mark by which it came in) of a walker along a row of moves."""
    if not is_row(row):
        raise BadWalk(0)
    steps = [(place, None)]
    for at, move in enumerate(row):
        step = doors.behind(steps[-1][0], move)
        if step is None:
            raise BadWalk(at)
        steps.append(step)
    return steps


def walk_seen(net, place, row):
    doors = Doors(net)
    need_place(net, place)
    return [doors.seen(spot, came) for spot, came in steps_along(doors, place, row)]


def walk_places(net, place, row):
    doors = Doors(net)
    need_place(net, place)
    return [spot for spot, _ in steps_along(doors, place, row)]


def parting_row(net, one, other):
    doors = Doors(net)
    need_place(net, one)
    need_place(net, other)
    rows = {(one, other): []}
    todo = [(one, other)]
    if _unlike(doors, (one, None), (other, None)):
        return []
    # As long as both see the same they have the same doors; so nobody comes to a door that the other one lacks.
    while todo:
        grown = []
        for near, away in todo:
            for mark in doors.marks_at(near):
                step = doors.behind(near, mark)
                far_step = doors.behind(away, mark)
                row = rows[near, away] + [mark]
                if _unlike(doors, step, far_step):
                    return row
                pair = (step[0], far_step[0])
                if pair not in rows:
                    rows[pair] = row
                    grown.append(pair)
        todo = grown
    return None


def _unlike(doors, step, other):
    """Whether walkers see unlike things behind these steps."""
    return seen_key(doors.seen(step[0], step[1])) != seen_key(doors.seen(other[0], other[1]))
