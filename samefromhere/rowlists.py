"""Lists of rows of nets: alike places, and wishes on them."""

from math import lcm

from samefromhere.basics import WordList, grouped, is_row
from samefromhere.errors import BadNetRows
from samefromhere.madenets import beside
from samefromhere.netlists import kind_numbers
from samefromhere.netrows import answers_of_row, need_net_row, net_row_fault
from samefromhere.nets import need_place
from samefromhere.plans import Asked, need_rounds
from samefromhere.rowkinds import ranks_by_round
from samefromhere.wishes import need_answers, right_rows


def _side_by_side(rows):
    """The row of nets in which all rows go on side by side, until all come to their first nets together."""
    many = 1
    for row in rows:
        many = lcm(many, len(row))
    return [beside([row[at % len(row)] for row in rows]) for at in range(many)]


def rows_alike_for(one, place, other, far):
    near = need_net_row(one)
    away = need_net_row(other)
    need_place(near[0], place)
    need_place(away[0], far)
    spot = len(near[0]) + far
    for done, line in enumerate(ranks_by_round(_side_by_side([near, away]), None)):
        if line[place] != line[spot]:
            return done - 1
    return None


def need_net_rows(rows):
    """A list of its own with lists of nets."""
    if not is_row(rows) or len(rows) == 0:
        raise BadNetRows(0)
    for at, row in enumerate(rows):
        if net_row_fault(row) is not None:
            raise BadNetRows(at)
    return [list(row) for row in rows]


def _kind_rows(rows, rounds):
    """For each row of nets the list of the numbers of its places' kinds, numbered by their first pairs."""
    line = ranks_by_round(_side_by_side(rows), rounds)[-1]
    return kind_numbers([row[0] for row in rows], line)


def rows_kinds(rows, rounds):
    kept = need_net_rows(rows)
    need_rounds(rounds)
    pairs = [(index, place) for index, row in enumerate(kept) for place in range(len(row[0]))]
    lots = grouped([number for row in _kind_rows(kept, rounds) for number in row])
    return [[pairs[at] for at in lot] for lot in lots]


class RowWish:
    """A wish on a list of rows of nets; right is asked for equal answers once."""

    def __init__(self, words, right):
        self.words = words
        self._right = right
        self._told = {}

    def is_right(self, index, numbers):
        """Whether the places of the row with this index may give the answers with these numbers."""
        asked = (index, tuple(numbers))
        if asked not in self._told:
            right = self._right
            self._told[asked] = right(index, tuple([self.words[number] for number in numbers])) is True
        return self._told[asked]


def row_choice(rows, rounds, answers, right):
    kept = need_net_rows(rows)
    need_rounds(rounds)
    need_answers(answers)
    wish = RowWish(WordList(answers).words, right)
    found = right_rows(wish, _kind_rows(kept, rounds), list(range(len(kept))), 1)
    if not found:
        return None
    return [wish.words[found[0][kind]] for kind in range(len(found[0]))]


def break_rows(rows, rounds, right, plan):
    kept = need_net_rows(rows)
    asked = Asked(plan)
    need_rounds(rounds)
    for index, row in enumerate(kept):
        answers = tuple(answers_of_row(asked, row, rounds))
        if right(index, answers) is not True:
            return index, answers
    return None
