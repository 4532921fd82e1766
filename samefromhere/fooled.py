"""Who ends is fooled: two nets and a third one that looks like both."""

from samefromhere.basics import is_function, read_word
from samefromhere.errors import BadDue, NoWord, SameDue, ToldApart
from samefromhere.finals import ends_of
from samefromhere.joints import Joint
from samefromhere.plans import Asked, need_rounds
from samefromhere.shapes import need_two_way_joined
from samefromhere.views import ViewBook


def fooling(one, other, rounds):
    need_two_way_joined(one)
    need_two_way_joined(other)
    need_rounds(rounds)
    return _third(one, other, rounds)


def _third(one, other, rounds):
    """The joined net with a view of both, and its places with these; None if all views clash."""
    book = ViewBook()
    near = sorted(set(book.views_of(one, rounds)))
    away = sorted(set(book.views_of(other, rounds)))
    joint = Joint(book, near + away)
    for seen in near:
        for far in away:
            if not joint.clash(seen, far) and not joint.clash(far, seen):
                net, places = joint.net_of([seen, far])
                return net, places[0], places[1]
    return None


class Due:
    """What every hand of a net should end with; asked for equal nets once."""

    def __init__(self, due):
        if not is_function(due):
            raise BadDue(due)
        self._due = due
        self._known = []

    def of(self, net):
        """The pair (word, flat key)."""
        for known, read in self._known:
            if known == net:
                return read
        due = self._due
        thing = due(net)
        read = read_word(thing)
        if read is None:
            raise NoWord(thing)
        self._known.append((net, read))
        return read


def break_end(one, other, plan, rounds, due):
    need_two_way_joined(one)
    need_two_way_joined(other)
    asked = Asked(plan)
    need_rounds(rounds)
    wanted = Due(due)
    word, key = wanted.of(one)
    if wanted.of(other)[1] == key:
        raise SameDue(word)
    third = _third(one, other, rounds)
    if third is None:
        raise ToldApart()
    for net in [one, other, third[0]]:
        fault = _wrong_end(asked, net, rounds, wanted.of(net)[1])
        if fault is not None:
            return net, fault[0], fault[1]
    return None


def _wrong_end(asked, net, rounds, key):
    """The first place that does not end with the word that has this key, and its answer; None if all do."""
    for place, end in enumerate(ends_of(asked, net, rounds)):
        if end is None:
            return place, None
        read = read_word(end[1])
        if read is None or read[1] != key:
            return place, end[1]
    return None
