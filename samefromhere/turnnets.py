"""Nets whose places are the elements of a group, with roads by steps."""

from samefromhere.errors import BadSigns
from samefromhere.groups import Group, need_steps
from samefromhere.nets import Net, read_signs


def need_signs(group, signs):
    """The list of the words of a pattern."""
    read = read_signs(signs)
    if len(read) != len(group.rows):
        raise BadSigns(min(len(read), len(group.rows)))
    return [word for word, _ in read]


def _step_roads(moduli, steps, signs):
    """The pair (words of the signs, list of (x, x + s, index of s, whether s is its own opposite))."""
    group = Group(moduli)
    numbers = need_steps(group, steps)
    words = need_signs(group, signs)
    roads = []
    for index, step in enumerate(numbers):
        is_own = group.sums[step][step] == 0
        roads.extend([(place, row[step], index, is_own) for place, row in enumerate(group.sums)])
    return words, roads


def turn_net(moduli, steps, signs):
    words, roads = _step_roads(moduli, steps, signs)
    return Net(words, [(one, other, index, index) for one, other, index, _ in roads])


def crowd_net(moduli, steps, signs):
    words, roads = _step_roads(moduli, steps, signs)
    return Net(words, [(one, other, "", "") for one, other, _, _ in roads])


def door_net(moduli, steps, signs):
    words, roads = _step_roads(moduli, steps, signs)
    both = []
    for one, other, index, is_own in roads:
        if is_own:
            both.append((one, other, (index, 0), (index, 0)))
        else:
            both.append((one, other, (index, 0), (index, 1)))
            both.append((other, one, (index, 1), (index, 0)))
    return Net(words, both)
