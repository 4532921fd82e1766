"""Wishes on lists of nets, and the right choices for them."""

from itertools import combinations

from samefromhere.basics import WordList, is_function, row_after, words_fault
from samefromhere.errors import BadAnswers, BadRight
from samefromhere.kinds import rank_rows
from samefromhere.madenets import beside, need_nets
from samefromhere.netlists import kind_numbers, kind_rows
from samefromhere.plans import need_rounds


def need_answers(answers):
    fault = words_fault(answers)
    if fault is not None:
        raise BadAnswers(fault)


class Wish(WordList):
    """A wish on a list of nets; right is asked for equal answers once."""

    def __init__(self, nets, answers, right):
        self.nets = need_nets(nets)
        need_answers(answers)
        WordList.__init__(self, answers)
        if not is_function(right):
            raise BadRight(right)
        self._right = right
        self._told = {}

    def is_right(self, index, numbers):
        """Whether the places of the net with this index may give the answers with these numbers."""
        asked = (index, tuple(numbers))
        if asked not in self._told:
            right = self._right
            self._told[asked] = bool(right(index, tuple([self.words[number] for number in numbers])))
        return self._told[asked]


def need_rounds_or_ever(rounds):
    if rounds is not None:
        need_rounds(rounds)


def right_rows(wish, rows, indexes, most):
    """The first so many (None for all) of the dicts from kinds to numbers of answers that are right on the nets with
    these indexes; rows are the kinds of each net's places."""
    found = []
    _add_rows(wish, [(index, rows[index]) for index in indexes], {}, most, found)
    return found


def _add_rows(wish, todo, picked, most, found):
    if not todo:
        found.append(picked)
        return
    index, row = todo[0]
    fresh = [kind for kind in sorted(set(row)) if kind not in picked]
    numbers = (0,) * len(fresh)
    while numbers is not None and (most is None or len(found) < most):
        grown = {**picked, **{kind: number for kind, number in zip(fresh, numbers)}}
        if wish.is_right(index, [grown[kind] for kind in row]):
            _add_rows(wish, todo[1:], grown, most, found)
        numbers = row_after(numbers, len(wish.words))


def wish_choices(wish, rounds, most):
    """The first so many (None for all) of the right choices for so many rounds."""
    rows = kind_rows(wish.nets, rounds)
    found = right_rows(wish, rows, list(range(len(rows))), most)
    return [tuple([wish.words[picked[kind]] for kind in range(len(picked))]) for picked in found]


def choices(nets, answers, right, rounds):
    wish = Wish(nets, answers, right)
    need_rounds_or_ever(rounds)
    return wish_choices(wish, rounds, None)


def first_choice(nets, answers, right, rounds):
    wish = Wish(nets, answers, right)
    need_rounds_or_ever(rounds)
    return first_of(wish, rounds)


def first_of(wish, rounds):
    """The first right choice, None if there is none."""
    found = wish_choices(wish, rounds, 1)
    return found[0] if found else None


def rounds_for(nets, answers, right):
    wish = Wish(nets, answers, right)
    indexes = list(range(len(wish.nets)))
    for rounds, row in enumerate(rank_rows(beside(wish.nets))):
        if right_rows(wish, kind_numbers(wish.nets, row), indexes, 1):
            return rounds
    return None


def barring(nets, answers, right, rounds):
    wish = Wish(nets, answers, right)
    need_rounds_or_ever(rounds)
    rows = kind_rows(wish.nets, rounds)
    for size in range(1, len(rows) + 1):
        for indexes in combinations(range(len(rows)), size):
            if not right_rows(wish, rows, indexes, 1):
                return list(indexes)
    return None
