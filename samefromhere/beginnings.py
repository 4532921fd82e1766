"""Steady plans with few states: all beginnings are gone through."""

from samefromhere.basics import all_rows, words_fault
from samefromhere.errors import BadWords, NoState
from samefromhere.plans import round_on, ways_of
from samefromhere.steadyplans import SteadyPlan
from samefromhere.wishes import Wish


class FewStates(SteadyPlan):
    """A steady plan all states of which are to be of a list of words."""

    def __init__(self, plan, words):
        SteadyPlan.__init__(self, plan)
        fault = words_fault(words)
        if fault is not None:
            raise BadWords(fault)
        # The dict of the numbers of the words, in their order.
        self.states = {self.number(word): True for word in words}

    def taken_state(self, thing):
        number = self.taken(thing)
        if number not in self.states:
            raise NoState(thing)
        return number


class Beginnings:
    """All rows of states; each leads to one behind a round, so in the end round a ring of them."""

    def __init__(self, net, answers, right, plan, words):
        self._wish = Wish([net], answers, right)
        self._asked = FewStates(plan, words)
        self._signs = [self._asked.number(sign) for sign in net.signs()]
        self._ways = ways_of(self._asked, net)
        states = list(self._asked.states)
        self._rows = [tuple([states[number] for number in row]) for row in all_rows(len(net), len(states))]
        place = {row: at for at, row in enumerate(self._rows)}
        self._later = [place[self._behind(row)] for row in self._rows]
        self._right = [self._is_right(row) for row in self._rows]
        self._order, self._in_ring = self._ahead_of_rings()

    def _behind(self, row):
        return tuple([state for _, state in round_on(self._asked, list(zip(self._signs, row)), self._ways)])

    def _is_right(self, row):
        numbers = [self._wish.number_of(self._asked.tell(pair)) for pair in zip(self._signs, row)]
        return None not in numbers and self._wish.is_right(0, numbers)

    def _ahead_of_rings(self):
        """The indexes of the rows that never come again, each ahead of the one behind it, and for each row whether it
        comes again."""
        coming = [0] * len(self._rows)
        for later in self._later:
            coming[later] += 1
        todo = [at for at, many in enumerate(coming) if many == 0]
        order = []
        while todo:
            order.append(todo.pop())
            later = self._later[order[-1]]
            coming[later] -= 1
            if coming[later] == 0:
                todo.append(later)
        return order, [many > 0 for many in coming]

    def fault(self):
        """The pair (row of words, how many rounds until it comes again) of the first row that comes again and is not
        right, None if there is none."""
        for at, row in enumerate(self._rows):
            if self._in_ring[at] and not self._right[at]:
                many = 1
                spot = self._later[at]
                while spot != at:
                    spot = self._later[spot]
                    many += 1
                return tuple([self._asked.word(state) for state in row]), many
        return None

    def rounds_to_right(self):
        """From how many rounds on all is right, where all that comes again is right."""
        rounds = [0] * len(self._rows)
        for at in reversed(self._order):
            behind = rounds[self._later[at]]
            if behind > 0 or not self._right[at]:
                rounds[at] = behind + 1
        return max(rounds)


def steady_rounds(net, answers, right, plan, words):
    beginnings = Beginnings(net, answers, right, plan, words)
    return None if beginnings.fault() is not None else beginnings.rounds_to_right()


def steady_fault(net, answers, right, plan, words):
    return Beginnings(net, answers, right, plan, words).fault()
