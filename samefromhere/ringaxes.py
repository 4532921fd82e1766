"""Axes of rings of doors: turned over they are the same."""

from samefromhere.kinds import rounds_needed
from samefromhere.ringkinds import period_of
from samefromhere.rings import door_ring, door_row, need_pattern


def ring_axes(signs, senses):
    return axes_of(need_pattern(signs, senses))


def axes_of(pattern):
    many = len(pattern)
    return [axis for axis in range(many) if all([_are_turned(pattern, at, (axis - at) % many) for at in range(many)])]


def _are_turned(pattern, one, other):
    """Whether two places have one sign, and unlike senses."""
    return pattern[one][0] == pattern[other][0] and pattern[one][1] != pattern[other][1]


def door_rounds(signs, senses):
    return rounds_needed(door_ring(signs, senses))


def kind_size(signs, senses):
    pattern = need_pattern(signs, senses)
    size = len(pattern) // period_of(pattern)
    return 2 * size if axes_of(pattern) else size


def row_turned(signs, senses):
    pattern = need_pattern(signs, senses)
    last = len(pattern) - 1
    return all([_are_turned(pattern, at, last - at) for at in range(len(pattern))])


def rounds_of_row(signs, senses):
    return rounds_needed(door_row(signs, senses))
