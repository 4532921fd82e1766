"""Rings in one sense, rings and rows of doors."""

from samefromhere.basics import is_integer, list_fault
from samefromhere.errors import BadSenses, BadTimes
from samefromhere.nets import Net, read_signs


def is_door(thing):
    return is_integer(thing) and thing in (0, 1)


def need_pattern(signs, senses):
    """The list of the pairs (sign, sense) of a ring, or row, of doors."""
    words = sign_words(signs)
    fault = list_fault(senses, len(words), lambda _, sense: is_door(sense))
    if fault is not None:
        raise BadSenses(fault)
    return list(zip(words, senses))


def sign_words(signs):
    """A list of its own with the words of a list of signs."""
    return [word for word, _ in read_signs(signs)]


def one_way_ring(signs):
    many = len(sign_words(signs))
    return Net(signs, [(place, (place + 1) % many, "", "") for place in range(many)])


def door_ring(signs, senses):
    need_pattern(signs, senses)
    many = len(signs)
    return _doors_joined(signs, senses, [(place, (place + 1) % many) for place in range(many)])


def door_row(signs, senses):
    need_pattern(signs, senses)
    return _doors_joined(signs, senses, [(place, place + 1) for place in range(len(signs) - 1)])


def _doors_joined(signs, senses, pairs):
    """The net of pairs of a place and the next one: by the door of its sense one comes to that one, by whose other
    door one comes back."""
    roads = []
    for one, other in pairs:
        out = senses[one]
        into = 1 - senses[other]
        roads.extend([(one, other, out, into), (other, one, into, out)])
    return Net(signs, roads)


def around(signs, times):
    words = sign_words(signs)
    if not is_integer(times) or times < 1:
        raise BadTimes(times)
    return words * times
