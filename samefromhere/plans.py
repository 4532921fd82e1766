"""Plans, run on nets by rounds."""

from samefromhere.basics import WordTable, is_function, is_number, is_row
from samefromhere.errors import BadNumber, BadPlan
from samefromhere.nets import marks


def need_functions(plan, many):
    if not is_row(plan) or len(plan) != many or not all([is_function(part) for part in plan]):
        raise BadPlan(plan)


def need_rounds(rounds):
    if not is_number(rounds):
        raise BadNumber(rounds)


class Functions(WordTable):
    """The functions of a plan, asked for equal arguments once; unlike words have numbers here."""

    def __init__(self, plan, many):
        need_functions(plan, many)
        WordTable.__init__(self)
        self._functions = tuple(plan)
        self._known = {}

    def _answer(self, at, given):
        function = self._functions[at]
        words = [self.word(number) for number in given]
        return function(*words)

    def word_told(self, at, *given):
        """The number of the word that a function tells of words with these numbers."""
        if (at, given) not in self._known:
            self._known[at, given] = self.taken(self._answer(at, given))
        return self._known[at, given]

    def thing_told(self, at, *given):
        """Any object that a function tells of words with these numbers."""
        if (at, given) not in self._known:
            self._known[at, given] = self._answer(at, given)
        return self._known[at, given]

    def heard_told(self, at, ahead, pairs, behind):
        """The number of the word that a function tells of words, of the pairs (into, letter) that are heard, and of
        words behind these."""
        keys = self._keys
        heard = tuple(sorted(pairs, key=lambda pair: (keys[pair[0]], keys[pair[1]])))
        key = (at, ahead, heard, behind)
        if key not in self._known:
            function = self._functions[at]
            words = [self.word(number) for number in ahead]
            words.append(tuple([(self.word(into), self.word(letter)) for into, letter in heard]))
            words.extend([self.word(number) for number in behind])
            self._known[key] = self.taken_state(function(*words))
        return self._known[key]

    def taken_state(self, thing):
        """The number of the word that is told of what is heard."""
        return self.taken(thing)


class Asked(Functions):
    """A plan; states and letters are numbers of words."""

    def __init__(self, plan):
        Functions.__init__(self, plan, 4)

    def begin(self, sign):
        """The state in which a place with this sign begins."""
        return self.word_told(0, sign)

    def say(self, state, out):
        return self.word_told(1, state, out)

    def hear(self, state, pairs):
        """The next state behind the pairs (into, letter)."""
        return self.heard_told(2, (state,), pairs, ())

    def tell(self, state):
        return self.thing_told(3, state)


def begun_states(asked, net):
    """The numbers of the states in which the places begin."""
    return [asked.begin(asked.number(sign)) for sign in net.signs()]


def ways_of(asked, net):
    """What a round goes by: the marks out of each place, and the roads, words as numbers."""
    doors = [[asked.number(mark) for mark in marks(net, place)] for place in range(len(net))]
    roads = [(one, other, asked.number(out), asked.number(into)) for one, other, out, into in net.roads()]
    return doors, roads


def round_on(asked, stand, ways):
    """The numbers of the states behind one round more."""
    doors, roads = ways
    said = {}
    for place, state in enumerate(stand):
        for out in doors[place]:
            said[place, out] = asked.say(state, out)
    heard = [[] for _ in stand]
    for one, other, out, into in roads:
        heard[other].append((into, said[one, out]))
    return [asked.hear(state, heard[place]) for place, state in enumerate(stand)]


def run(asked, net, rounds):
    """The numbers of the states behind so many rounds."""
    stand = begun_states(asked, net)
    ways = ways_of(asked, net)
    for _ in range(rounds):
        stand = round_on(asked, stand, ways)
    return stand


def answers_of(asked, net, rounds):
    """What the places tell behind so many rounds."""
    return [asked.tell(state) for state in run(asked, net, rounds)]


def states(net, plan, rounds):
    asked = Asked(plan)
    need_rounds(rounds)
    return [asked.word(state) for state in run(asked, net, rounds)]


def told(net, plan, rounds):
    asked = Asked(plan)
    need_rounds(rounds)
    return answers_of(asked, net, rounds)
