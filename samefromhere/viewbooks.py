"""Views by numbers: equal ones have one number, however large they are written."""

from samefromhere.basics import word_key
from samefromhere.views import heard_roads, read_view


class ViewBook:
    """Keeps unlike views, each once; a view's number is above those of the views in it."""

    def __init__(self):
        self._words = []
        self._word_numbers = {}
        self._rows = []
        self._view_numbers = {}
        self._cuts = {}

    def word_number(self, word):
        key = word_key(word)
        if key not in self._word_numbers:
            self._word_numbers[key] = len(self._words)
            self._words.append(word)
        return self._word_numbers[key]

    def word(self, number):
        return self._words[number]

    def row(self, view):
        """The view with this number: (rounds, sign, tuple of triples (into, out, view)), words and views as numbers."""
        return self._rows[view]

    def rounds(self, view):
        return self._rows[view][0]

    def put(self, rounds, sign, triples):
        """The number of the view that has these, words and views being numbers."""
        row = (rounds, sign, tuple(sorted(triples)))
        if row not in self._view_numbers:
            self._view_numbers[row] = len(self._rows)
            self._rows.append(row)
        return self._view_numbers[row]

    def read(self, thing):
        """The number of a view, None for any object that is none."""
        levels = read_view(thing)
        if levels is None:
            return None
        rounds = thing[0] - len(levels)
        below = []
        for level in reversed(levels):
            rounds += 1
            below = [self._put_node(rounds, node, below) for node in level]
        return below[0]

    def _put_node(self, rounds, node, below):
        triples = [(self.word_number(into), self.word_number(out), below[child]) for into, out, child in node[1]]
        return self.put(rounds, self.word_number(node[0]), triples)

    def along(self, net, rounds):
        """The lists of the numbers of the places' views of 0, 1, .. so many rounds."""
        signs = [self.word_number(sign) for sign in net.signs()]
        heard = [[(self.word_number(road[3]), self.word_number(road[2]), sender) for _, _, sender, road in row]
                 for row in heard_roads(net)]
        lines = [[self.put(0, sign, []) for sign in signs]]
        for done in range(rounds):
            last = lines[-1]
            lines.append([self.put(done + 1, signs[place], [(into, out, last[sender]) for into, out, sender in row])
                          for place, row in enumerate(heard)])
        return lines

    def views_of(self, net, rounds):
        """The numbers of the places' views of so many rounds."""
        return self.along(net, rounds)[-1]

    def within(self, view):
        """The numbers of the view and all views in it, ascending."""
        found = {view: True}
        todo = [view]
        while todo:
            for _, _, child in self._rows[todo.pop()][2]:
                if child not in found:
                    found[child] = True
                    todo.append(child)
        return sorted(found)

    def cut(self, view, rounds):
        """The view, of at least so many rounds, cut to these."""
        while self.rounds(view) > rounds:
            view = self._shorter(view)
        return view

    def _shorter(self, view):
        """The view cut to a round less. Those in it come first; so no cut waits for long rows of others."""
        todo = [view]
        while todo:
            rounds, sign, triples = self._rows[todo[-1]]
            inner = triples if rounds > 1 else ()
            lacking = [child for _, _, child in inner if child not in self._cuts]
            if lacking:
                todo.extend(lacking)
            else:
                cut = [(into, out, self._cuts[child]) for into, out, child in inner]
                self._cuts[todo.pop()] = self.put(rounds - 1, sign, cut)
        return self._cuts[view]
