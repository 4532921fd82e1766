"""Event plans, run where nobody keeps rounds: places wake, and letters that wait on roads are taken."""

from samefromhere.basics import first_fault, is_number, is_row
from samefromhere.errors import BadPicks, BadTurn, NoWord
from samefromhere.nets import marks
from samefromhere.plans import Functions

# The state of a place that sleeps, and the road of the event that a place wakes.
ASLEEP = -1
NO_ROAD = -1


class EventPlan(Functions):
    """An event plan; states and letters are numbers of words."""

    def __init__(self, plan):
        Functions.__init__(self, plan, 4)
        self._put = {}

    def begin(self, sign):
        return self.word_told(0, sign)

    def letters_put(self, state, out):
        """The tuple of the letters that are put."""
        if (state, out) not in self._put:
            thing = self.thing_told(1, state, out)
            letters = [self.number(letter) for letter in thing] if is_row(thing) else [None]
            if None in letters:
                raise NoWord(thing)
            self._put[state, out] = tuple(letters)
        return self._put[state, out]

    def take(self, state, into, letter):
        return self.word_told(2, state, into, letter)

    def tell(self, state):
        """Any object that is told."""
        return self.thing_told(3, state)

    def tell_word(self, state):
        return self.taken(self.tell(state))


class Events:
    """The events of an event plan on a net. A stand is a pair of tuples: the places' states, and for each road, in the
    order of the net's, the tuple of the letters that wait, longest first."""

    def __init__(self, asked, net, in_turn):
        self.asked = asked
        self._in_turn = in_turn
        self._signs = [asked.number(sign) for sign in net.signs()]
        self._ends = [road[1] for road in net.roads()]
        self._into = [asked.number(road[3]) for road in net.roads()]
        keys = net.road_keys()
        self._doors = []
        for place in range(len(net)):
            doors = []
            for mark in marks(net, place):
                out = asked.number(mark)
                lot = [at for at, road in enumerate(keys) if road[0] == place and road[2] == asked.key(out)]
                doors.append((out, lot))
            self._doors.append(doors)
        self.first = ((ASLEEP,) * len(net), ((),) * len(keys))

    def possible(self, stand):
        """The events that can be, in their order: pairs (NO_ROAD, place) or (road, how many letters are ahead)."""
        states, waiting = stand
        found = [(NO_ROAD, place) for place, state in enumerate(states) if state == ASLEEP]
        for road, letters in enumerate(waiting):
            if letters and states[self._ends[road]] != ASLEEP:
                found.extend([(road, at) for at in range(1 if self._in_turn else len(letters))])
        return found

    def behind(self, stand, event):
        """The stand behind an event."""
        road, at = event
        states = list(stand[0])
        waiting = list(stand[1])
        if road == NO_ROAD:
            place = at
            states[place] = self.asked.begin(self._signs[place])
        else:
            place = self._ends[road]
            letters = waiting[road]
            states[place] = self.asked.take(states[place], self._into[road], letters[at])
            waiting[road] = letters[:at] + letters[at + 1:]
        for out, lot in self._doors[place]:
            letters = self.asked.letters_put(states[place], out)
            for other in lot:
                waiting[other] = waiting[other] + letters
        return tuple(states), tuple(waiting)


def events_of(net, plan, in_turn):
    if not isinstance(in_turn, bool):
        raise BadTurn(in_turn)
    return Events(plan, net, in_turn)


def _read_run(net, plan, picks, in_turn):
    asked = EventPlan(plan)
    fault = first_fault(picks, is_number)
    if fault is not None:
        raise BadPicks(fault)
    return events_of(net, asked, in_turn)


def _picked(events, stand, picks):
    """The stand, and how many events there were, behind as many events as there are picks, fewer if it is quiet."""
    for done, pick in enumerate(picks):
        possible = events.possible(stand)
        if not possible:
            return stand, done
        stand = events.behind(stand, possible[pick % len(possible)])
    return stand, len(picks)


def quiet_run(net, plan, picks, in_turn):
    events = _read_run(net, plan, picks, in_turn)
    stand, done = _picked(events, events.first, picks)
    possible = events.possible(stand)
    while possible:
        stand = events.behind(stand, possible[0])
        done += 1
        possible = events.possible(stand)
    return tuple([events.asked.tell(state) for state in stand[0]]), done


def asleep_or_waiting(net, plan, picks, in_turn):
    events = _read_run(net, plan, picks, in_turn)
    states, waiting = _picked(events, events.first, picks)[0]
    return states.count(ASLEEP), tuple([len(letters) for letters in waiting])
