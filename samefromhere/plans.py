"""Plans, run on nets by rounds."""

from samefromhere.basics import is_function, is_number, is_row, read_word
from samefromhere.errors import BadNumber, BadPlan, NoWord
from samefromhere.nets import marks


def need_plan(plan):
    if not is_row(plan) or len(plan) != 4 or not all([is_function(part) for part in plan]):
        raise BadPlan(plan)


def need_rounds(rounds):
    if not is_number(rounds):
        raise BadNumber(rounds)


class Asked:
    """A plan whose functions are asked for equal arguments once; unlike words have numbers here."""

    def __init__(self, plan):
        need_plan(plan)
        self._plan = tuple(plan)
        self._numbers = {}
        self._words = []
        self._keys = []
        self._begun = {}
        self._said = {}
        self._next = {}
        self._told = {}

    def number(self, thing):
        """The number of a word, None for what is none."""
        read = read_word(thing)
        if read is None:
            return None
        word, key = read
        if key not in self._numbers:
            self._numbers[key] = len(self._words)
            self._words.append(word)
            self._keys.append(key)
        return self._numbers[key]

    def word(self, number):
        return self._words[number]

    def key(self, number):
        return self._keys[number]

    def _taken(self, thing):
        number = self.number(thing)
        if number is None:
            raise NoWord(thing)
        return number

    def begin(self, sign):
        """The state, a number, in which a place with this sign, a number, begins."""
        if sign not in self._begun:
            begin = self._plan[0]
            self._begun[sign] = self._taken(begin(self._words[sign]))
        return self._begun[sign]

    def say(self, state, out):
        if (state, out) not in self._said:
            say = self._plan[1]
            self._said[state, out] = self._taken(say(self._words[state], self._words[out]))
        return self._said[state, out]

    def hear(self, state, pairs):
        """The next state behind the pairs (into, letter) of numbers."""
        keys = self._keys
        heard = tuple(sorted(pairs, key=lambda pair: (keys[pair[0]], keys[pair[1]])))
        if (state, heard) not in self._next:
            hear = self._plan[2]
            words = tuple([(self._words[into], self._words[letter]) for into, letter in heard])
            self._next[state, heard] = self._taken(hear(self._words[state], words))
        return self._next[state, heard]

    def tell(self, state):
        if state not in self._told:
            tell = self._plan[3]
            self._told[state] = tell(self._words[state])
        return self._told[state]


def begun_states(asked, net):
    """The numbers of the states in which the places begin."""
    return [asked.begin(asked.number(sign)) for sign in net.signs()]


def ways_of(asked, net):
    """What a round goes by: the marks out of each place, and the roads, words as numbers."""
    doors = [[asked.number(mark) for mark in marks(net, place)] for place in range(len(net))]
    roads = [(one, other, asked.number(out), asked.number(into)) for one, other, out, into in net.roads()]
    return doors, roads


def round_on(asked, stand, ways):
    """The numbers of the states behind one round more."""
    doors, roads = ways
    said = {}
    for place, state in enumerate(stand):
        for out in doors[place]:
            said[place, out] = asked.say(state, out)
    heard = [[] for _ in stand]
    for one, other, out, into in roads:
        heard[other].append((into, said[one, out]))
    return [asked.hear(state, heard[place]) for place, state in enumerate(stand)]


def run(asked, net, rounds):
    """The numbers of the states behind so many rounds."""
    stand = begun_states(asked, net)
    ways = ways_of(asked, net)
    for _ in range(rounds):
        stand = round_on(asked, stand, ways)
    return stand


def answers_of(asked, net, rounds):
    """What the places tell behind so many rounds."""
    return [asked.tell(state) for state in run(asked, net, rounds)]


def states(net, plan, rounds):
    asked = Asked(plan)
    need_rounds(rounds)
    return [asked.word(state) for state in run(asked, net, rounds)]


def told(net, plan, rounds):
    asked = Asked(plan)
    need_rounds(rounds)
    return answers_of(asked, net, rounds)
