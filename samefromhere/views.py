"""Views: what could come to a place in so many rounds; written, and by numbers."""

from samefromhere.basics import WordTable, is_number, numbered, numbers_of, read_word, word_key
from samefromhere.errors import BadView
from samefromhere.nets import need_place
from samefromhere.plans import Asked, need_rounds


def view(net, place, rounds):
    need_place(net, place)
    need_rounds(rounds)
    return views_of(net, rounds)[place]


def views_of(net, rounds):
    """The views of all places; their order is kept by numbers, as written views grow."""
    signs = net.signs()
    sign_numbers = numbers_of(net.sign_keys())
    heard = heard_roads(net)
    seen = [(0, sign, ()) for sign in signs]
    order = sign_numbers
    for done in range(rounds):
        triples, keys = triples_heard(heard, seen, order)
        seen = [(done + 1, sign, triples[place]) for place, sign in enumerate(signs)]
        order = numbers_of(list(zip(sign_numbers, keys)))
    return seen


def triples_heard(heard, seen, order):
    """What each place hears where the places have these views, and these numbers by the order of views: the list of
    the tuples of triples (into, out, view), ascending, and that of their keys, which compare as they do."""
    triples = []
    keys = []
    for row in heard:
        rows = sorted([((into, out, order[sender]), road) for into, out, sender, road in row], key=lambda item: item[0])
        triples.append(tuple([(road[3], road[2], seen[road[0]]) for _, road in rows]))
        keys.append(tuple([key for key, _ in rows]))
    return triples, keys


def heard_roads(net):
    """For each place the list of (number of into, number of out, sender, road), one for each road to it."""
    heard = [[] for _ in range(len(net))]
    keys = net.road_keys()
    order = numbered([key for road in keys for key in road[2:]])
    for road, (one, other, out, into) in zip(net.roads(), keys):
        heard[other].append((order[into], order[out], one, road))
    return heard


def view_plan():
    return (_begin_view, _say_view, _hear_views, _tell_view)


def _begin_view(sign):
    return (0, sign, ())


def _say_view(state, out):
    return (out, state)


def _hear_views(state, heard):
    return (state[0] + 1, state[1], tuple([(into, letter[0], letter[1]) for into, letter in heard]))


def _tell_view(state):
    return state


def state_in(plan, seen):
    asked = Asked(plan)
    levels = read_view(seen)
    if levels is None:
        raise BadView(seen)
    behind = []
    rounds = seen[0] - len(levels)
    for level in reversed(levels):
        rounds += 1
        behind = [_states_along(asked, node, behind, rounds) for node in level]
    return asked.word(behind[0][-1])


def _states_along(asked, node, behind, rounds):
    """The states of one view behind 0, 1, .. rounds, made of those that its senders have."""
    sign, triples = node
    roads = [(asked.number(into), asked.number(out), behind[sender]) for into, out, sender in triples]
    line = [asked.begin(asked.number(sign))]
    for done in range(rounds):
        pairs = [(into, asked.say(sender[done], out)) for into, out, sender in roads]
        line.append(asked.hear(line[-1], pairs))
    return line


def read_view(thing):
    """None for what is no view, else by how deep they lie the lists of the unlike views in it, the view first:
    pairs (sign, list of the triples (into, out, number of the sender's view in the list below))."""
    read = read_word(thing)
    if read is None:
        return None
    levels = _levels(read[0])
    if levels is None:
        return None
    found = []
    below = []
    for row in reversed(levels):
        keys = _level_keys(row, below)
        if not all([_is_ascending(triples) for _, triples in keys]):
            return None
        order = numbered(keys)
        sample = {key: item for key, item in zip(keys, row)}
        found.append([_node(sample[key], key[1]) for key in order])
        below = [order[key] for key in keys]
    return found[::-1]


def _levels(word):
    """The views that lie so deep, list by list, each as often as it stands there; None if one is no view."""
    if not isinstance(word, tuple) or len(word) == 0 or not is_number(word[0]):
        return None
    rounds = word[0]
    levels = []
    row = [word]
    while row:
        if not all([_has_shape(item, rounds) for item in row]):
            return None
        levels.append(row)
        row = [triple[2] for item in row for triple in item[2]]
        rounds -= 1
    return levels


def _has_shape(item, rounds):
    if not isinstance(item, tuple) or len(item) != 3 or item[0] != rounds or not isinstance(item[2], tuple):
        return False
    if rounds == 0:
        return item[2] == ()
    return all([isinstance(triple, tuple) and len(triple) == 3 for triple in item[2]])


def _level_keys(row, below):
    keys = []
    at = 0
    for item in row:
        triples = []
        for into, out, _ in item[2]:
            triples.append((word_key(into), word_key(out), below[at]))
            at += 1
        keys.append((word_key(item[1]), tuple(triples)))
    return keys


def _is_ascending(triples):
    return list(triples) == sorted(triples)


def _node(item, triples):
    """Equal keys are equal views; so any view with the key tells the words."""
    return item[1], [(into, out, key[2]) for (into, out, _), key in zip(item[2], triples)]


class ViewBook(WordTable):
    """Keeps unlike views, each once; a view's number is above those of the views in it."""

    def __init__(self):
        WordTable.__init__(self)
        self._rows = []
        self._view_numbers = {}
        self._cuts = {}

    def row(self, seen):
        """The view with this number: (rounds, sign, tuple of triples (into, out, view)), words and views as numbers."""
        return self._rows[seen]

    def rounds(self, seen):
        return self._rows[seen][0]

    def put(self, rounds, sign, triples):
        """The number of the view that has these, words and views being numbers."""
        row = (rounds, sign, tuple(sorted(triples)))
        if row not in self._view_numbers:
            self._view_numbers[row] = len(self._rows)
            self._rows.append(row)
        return self._view_numbers[row]

    def read(self, thing):
        """The number of a view, None for any object that is none."""
        levels = read_view(thing)
        if levels is None:
            return None
        rounds = thing[0] - len(levels)
        below = []
        for level in reversed(levels):
            rounds += 1
            below = [self._put_node(rounds, node, below) for node in level]
        return below[0]

    def _put_node(self, rounds, node, below):
        triples = [(self.number(into), self.number(out), below[child]) for into, out, child in node[1]]
        return self.put(rounds, self.number(node[0]), triples)

    def along(self, net, rounds):
        """The lists of the numbers of the places' views of 0, 1, .. so many rounds."""
        signs = [self.number(sign) for sign in net.signs()]
        heard = [[(self.number(road[3]), self.number(road[2]), sender) for _, _, sender, road in row]
                 for row in heard_roads(net)]
        lines = [[self.put(0, sign, []) for sign in signs]]
        for done in range(rounds):
            last = lines[-1]
            lines.append([self.put(done + 1, signs[place], [(into, out, last[sender]) for into, out, sender in row])
                          for place, row in enumerate(heard)])
        return lines

    def views_of(self, net, rounds):
        """The numbers of the places' views of so many rounds."""
        return self.along(net, rounds)[-1]

    def within(self, seen):
        """The numbers of the view and all views in it, ascending."""
        found = {seen: True}
        todo = [seen]
        while todo:
            for _, _, child in self._rows[todo.pop()][2]:
                if child not in found:
                    found[child] = True
                    todo.append(child)
        return sorted(found)

    def cut(self, seen, rounds):
        """The view, of at least so many rounds, cut to these."""
        while self.rounds(seen) > rounds:
            seen = self._shorter(seen)
        return seen

    def _shorter(self, seen):
        """The view cut to a round less. Those in it come first; so no cut waits for long rows of others."""
        todo = [seen]
        while todo:
            rounds, sign, triples = self._rows[todo[-1]]
            inner = triples if rounds > 1 else ()
            lacking = [child for _, _, child in inner if child not in self._cuts]
            if lacking:
                todo.extend(lacking)
            else:
                cut = [(into, out, self._cuts[child]) for into, out, child in inner]
                self._cuts[todo.pop()] = self.put(rounds - 1, sign, cut)
        return self._cuts[seen]
