"""Steady plans: whatever the states are at first, the last rounds alone count."""

from samefromhere.basics import is_word, numbers_fault, word_key
from samefromhere.errors import BadBegun
from samefromhere.plans import Functions, need_functions, need_rounds, round_on, ways_of
from samefromhere.views import read_view, state_in


class SteadyPlan(Functions):
    """A steady plan; what a place goes by is a pair (sign, state) of numbers of words."""

    def __init__(self, plan):
        Functions.__init__(self, plan, 3)

    def say(self, stand, out):
        sign, state = stand
        return self.word_told(0, sign, state, out)

    def hear(self, stand, pairs):
        return stand[0], self.heard_told(1, stand, pairs, ())

    def tell(self, stand):
        """Any object that is told."""
        sign, state = stand
        return self.thing_told(2, sign, state)


def _run(asked, net, begun, rounds):
    """The pairs (sign, state) behind so many rounds from these states."""
    fault = numbers_fault(begun, len(net), is_word)
    if fault is not None:
        raise BadBegun(fault)
    need_rounds(rounds)
    stand = [(asked.number(sign), asked.number(state)) for sign, state in zip(net.signs(), begun)]
    ways = ways_of(asked, net)
    for _ in range(rounds):
        stand = round_on(asked, stand, ways)
    return stand


def answers_from(net, plan, begun, rounds):
    asked = SteadyPlan(plan)
    return [asked.tell(pair) for pair in _run(asked, net, begun, rounds)]


def states_behind(net, plan, begun, rounds):
    asked = SteadyPlan(plan)
    return [asked.word(state) for _, state in _run(asked, net, begun, rounds)]


def steady(plan, rounds):
    """States are tuples of a place's views of 1, 2, .. so many rounds."""
    need_functions(plan, 4)
    need_rounds(rounds)
    kept = tuple(plan)
    plan_tell = kept[3]

    def say(sign, state, out):
        return out, [_view_held(sign, state, done, rounds) for done in range(rounds)]

    def hear(sign, state, heard):
        found = []
        for done in range(rounds):
            triples = [(into, letter[0], letter[1][done]) for into, letter in heard]
            found.append((done + 1, sign, sorted(triples, key=word_key)))
        return found

    def tell(sign, state):
        return plan_tell(state_in(kept, _view_held(sign, state, rounds, rounds)))

    return say, hear, tell


def _view_held(sign, state, done, rounds):
    """The view of so many rounds that a state holds; what is none counts as one of a place that heard nothing."""
    if done > 0 and isinstance(state, tuple) and len(state) == rounds:
        held = state[done - 1]
        if isinstance(held, tuple) and held[:2] == (done, sign) and read_view(held) is not None:
            return held
    return done, sign, ()
