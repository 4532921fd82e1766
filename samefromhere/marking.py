"""Marks and numbers that make places unlike, as few as can be."""

from itertools import combinations

from samefromhere.basics import unlike_fault
from samefromhere.errors import BadPlaces
from samefromhere.netlists import kind_rows
from samefromhere.nets import Net, is_place_of
from samefromhere.wishes import Wish, need_rounds_or_ever, right_rows


def marked(net, places):
    many = len(net)
    fault = unlike_fault(places, lambda thing: is_place_of(many, thing))
    if fault is not None:
        raise BadPlaces(fault)
    return numbered_signs(net, [1 if place in places else 0 for place in range(many)])


def numbered_signs(net, numbers):
    return Net(list(zip(net.signs(), numbers)), net.roads())


class Trial:
    """Tries numbers beside the signs of a net; what parts the places alike is tried once."""

    def __init__(self, net, answers, right, rounds):
        self._wish = Wish([net], answers, right)
        need_rounds_or_ever(rounds)
        self._net = net
        self._rounds = rounds
        self._known = {}

    def can_be(self, numbers):
        """Whether there is a right choice with these numbers."""
        row = kind_rows([numbered_signs(self._net, numbers)], self._rounds)[0]
        key = tuple(row)
        if key not in self._known:
            self._known[key] = len(right_rows(self._wish, [row], [0], 1)) > 0
        return self._known[key]


def fewest_marked(net, answers, right, rounds):
    trial = Trial(net, answers, right, rounds)
    many = len(net)
    for size in range(many + 1):
        found = []
        for places in combinations(range(many), size):
            if trial.can_be([1 if place in places else 0 for place in range(many)]):
                found.append(list(places))
        if found:
            return found
    return []


def words_for(net, answers, right, rounds):
    trial = Trial(net, answers, right, rounds)
    lists = _number_lists(len(net))
    for size in range(1, len(net) + 1):
        for numbers in lists:
            if max(numbers) == size - 1 and trial.can_be(numbers):
                return numbers
    return None


def _number_lists(many):
    """One list of numbers for each parting of so many places, as lists compare: of those that part alike the first
    has new numbers in their order."""
    found = [[]]
    for _ in range(many):
        found = [row + [number] for row in found for number in range(max(row + [-1]) + 2)]
    return found
