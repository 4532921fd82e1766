"""Plans of places that throw in each round, and the chances of what they tell."""

from samefromhere.basics import fraction, power
from samefromhere.plans import Functions, need_rounds, ways_of
from samefromhere.throws import need_sides
from samefromhere.wishes import Wish


class Thrower(Functions):
    """A throwing plan; states, letters and numbers thrown are numbers of words."""

    def __init__(self, plan):
        Functions.__init__(self, plan, 4)

    def begin_thrown(self, sign, number):
        return self.word_told(0, sign, number)

    def say(self, state, out):
        return self.word_told(1, state, out)

    def hear_thrown(self, state, pairs, number):
        return self.heard_told(2, (state,), pairs, (number,))

    def tell(self, state):
        """The number of the answer, which is to be a word."""
        return self.word_told(3, state)

    def tell_any(self, state):
        return self.thing_told(3, state)


class ThrowingRun:
    """A throwing plan on a net: the dict from rows of states to how many rows of throws lead there."""

    def __init__(self, thrower, net, sides):
        self._thrower = thrower
        self._numbers = [thrower.number(number) for number in range(sides)]
        self._ways = ways_of(thrower, net)
        self._all = power(sides, len(net))
        signs = [thrower.number(sign) for sign in net.signs()]
        begun = [[thrower.begin_thrown(sign, number) for number in self._numbers] for sign in signs]
        self.stands = _joined([_counted(row) for row in begun])
        self.bottom = self._all

    def go_on(self):
        """One round more."""
        found = {}
        for stand, many in self.stands.items():
            for row, times in _joined(self._next(stand)).items():
                found[row] = found.get(row, 0) + many * times
        self.stands = found
        self.bottom = self.bottom * self._all

    def _next(self, stand):
        """For each place the dict from its next states to how many numbers thrown lead there."""
        doors, roads = self._ways
        said = {}
        for place, state in enumerate(stand):
            for out in doors[place]:
                said[place, out] = self._thrower.say(state, out)
        heard = [[] for _ in stand]
        for one, other, out, into in roads:
            heard[other].append((into, said[one, out]))
        return [_counted([self._thrower.hear_thrown(state, heard[place], number) for number in self._numbers])
                for place, state in enumerate(stand)]


def _counted(things):
    """The dict from unlike things to how often each is there."""
    found = {}
    for thing in things:
        found[thing] = found.get(thing, 0) + 1
    return found


def _joined(options):
    """The dict from rows of one of each of the options to the product of how often these are there."""
    rows = {(): 1}
    for option in options:
        rows = {row + (thing,): many * times for row, many in rows.items() for thing, times in option.items()}
    return rows


def chances(net, plan, sides, rounds):
    thrower = Thrower(plan)
    need_sides(sides)
    need_rounds(rounds)
    going = ThrowingRun(thrower, net, sides)
    for _ in range(rounds):
        going.go_on()
    found = {}
    for stand, many in going.stands.items():
        answers = tuple([thrower.tell(state) for state in stand])
        found[answers] = found.get(answers, 0) + many
    keys = {tuple([thrower.key(answer) for answer in answers]): answers for answers in found}
    told = {}
    for key in sorted(keys):
        answers = keys[key]
        told[tuple([thrower.word(answer) for answer in answers])] = fraction(found[answers], going.bottom)
    return told


def chances_right(net, answers, right, plan, sides, rounds):
    wish = Wish([net], answers, right)
    thrower = Thrower(plan)
    need_sides(sides)
    need_rounds(rounds)
    going = ThrowingRun(thrower, net, sides)
    found = [_chance_right(wish, thrower, going)]
    for _ in range(rounds):
        going.go_on()
        found.append(_chance_right(wish, thrower, going))
    return found


def _chance_right(wish, thrower, going):
    right = 0
    for stand, many in going.stands.items():
        numbers = [wish.number_of(thrower.tell_any(state)) for state in stand]
        if None not in numbers and wish.is_right(0, numbers):
            right += many
    return fraction(right, going.bottom)
