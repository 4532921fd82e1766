"""The house: nets by names, questions that are watched, and all that is done and taken back."""

from samefromhere.basics import Thing, is_number, read_word, word_key
from samefromhere.errors import BadDeed, BadQuestion, InUse, IsWatched, NoCount, NoNet, NotWatched, WouldChange
from samefromhere.housedeeds import changed_nets, is_deed
from samefromhere.housequestions import answer_to, names_in, read_question


class Stand(Thing):
    """What a house keeps at one time: nets by their names, ascending, and for each watched question the triple
    (question, its answer, whether it is held). It never changes."""

    def __init__(self, nets, watched_rows):
        self.nets = nets
        self.watched_rows = watched_rows

    def is_like(self, other):
        return self.nets == other.nets and self._watched_keys() == other._watched_keys()

    def _watched_keys(self):
        return [(word_key(question), is_held) for question, _, is_held in self.watched_rows]

    def index_of(self, question):
        """The index of the triple of a question, None if it is not watched."""
        keys = [key for key, _ in self._watched_keys()]
        key = word_key(question)
        return keys.index(key) if key in keys else None


def _question_on(nets, thing):
    question = read_question(nets, thing)
    if question is None:
        raise BadQuestion(thing)
    return question


def _stand_behind(stand, deed):
    """The stand behind a deed, whatever questions are answered otherwise then."""
    kind = deed[0]
    if kind not in ("watch", "hold", "leave"):
        return _with_nets(stand, changed_nets(stand.nets, deed), deed[1])
    question = _question_on(stand.nets, deed[1])
    at = stand.index_of(question)
    rows = list(stand.watched_rows)
    if kind == "leave":
        if at is None:
            raise NotWatched(deed[1])
        del rows[at]
    elif at is None:
        rows.append((question, answer_to(stand.nets, question), kind == "hold"))
    elif kind == "watch" or rows[at][2]:
        raise IsWatched(deed[1])
    else:
        rows[at] = (question, rows[at][1], True)
    return Stand(stand.nets, tuple(rows))


def _with_nets(stand, nets, name):
    """The stand with these nets, of which the one with this name alone is another one."""
    for question, _, _ in stand.watched_rows:
        if read_question(nets, question) is None:
            raise InUse(question)
    rows = []
    for question, answer, is_held in stand.watched_rows:
        rows.append((question, answer_to(nets, question) if name in names_in(question) else answer, is_held))
    return Stand(nets, tuple(rows))


def _changes(stand, later):
    """The triples (question, answer ahead, answer behind) of the questions that are answered otherwise behind."""
    ahead = {word_key(question): answer for question, answer, _ in stand.watched_rows}
    found = []
    for question, answer, _ in later.watched_rows:
        known = ahead.get(word_key(question), answer)
        if known != answer:
            found.append((question, known, answer))
    return found


class House(Thing):
    """A house; it keeps the stands behind 0, 1, .. deeds, and the pairs (deed, stand) that can be done again."""

    def __init__(self):
        self._stands = (Stand({}, ()),)
        self._done = ()
        self._undone = ()

    def __eq__(self, other):
        return isinstance(other, House) and self._now().is_like(other._now())

    def _now(self):
        return self._stands[-1]

    def _tried(self, deed):
        """The pair (stand behind a deed, what is answered otherwise then)."""
        if not is_deed(deed):
            raise BadDeed(deed)
        later = _stand_behind(self._now(), deed)
        return later, _changes(self._now(), later)

    def nets_kept(self):
        return {name: net for name, net in self._now().nets.items()}

    def watched(self):
        return list(self._now().watched_rows)

    def do(self, deed):
        later, changes = self._tried(deed)
        held = [question for question, _, is_held in self._now().watched_rows if is_held]
        for question, _, _ in changes:
            if question in held:
                raise WouldChange(question)
        self._stands = self._stands + (later,)
        self._done = self._done + (read_word(deed)[0],)
        self._undone = ()
        return changes

    def is_question(self, thing):
        return read_question(self._now().nets, thing) is not None

    def answer(self, question):
        return answer_to(self._now().nets, _question_on(self._now().nets, question))

    def would(self, deed):
        return self._tried(deed)[1]

    def spare_roads(self, name):
        nets = self._now().nets
        if not isinstance(name, str) or name not in nets:
            raise NoNet(name)
        roads = nets[name].roads()
        unlike = [road for at, road in enumerate(roads) if at == 0 or road != roads[at - 1]]
        return [road for road in unlike if self._is_spare(name, road)]

    def _is_spare(self, name, road):
        nets = changed_nets(self._now().nets, ("off", name, *road))
        for question, answer, _ in self._now().watched_rows:
            if name in names_in(question):
                if read_question(nets, question) is None or answer_to(nets, question) != answer:
                    return False
        return True

    def count(self):
        return len(self._done)

    def undo(self):
        if not self._done:
            return None
        deed = self._done[-1]
        self._undone = self._undone + ((deed, self._now()),)
        self._stands = self._stands[:-1]
        self._done = self._done[:-1]
        return deed

    def again(self):
        if not self._undone:
            return None
        deed, stand = self._undone[-1]
        self._stands = self._stands + (stand,)
        self._done = self._done + (deed,)
        self._undone = self._undone[:-1]
        return deed

    def deeds(self):
        return list(self._done)

    def at(self, number):
        if not is_number(number) or number > self.count():
            raise NoCount(number)
        return _house_with(self._stands[:number + 1], self._done[:number], ())

    def copy(self):
        return _house_with(self._stands, self._done, self._undone)

    def trial(self, work):
        stands = self._stands
        done = self._done
        undone = self._undone
        try:
            return work(self)
        finally:
            self._stands = stands
            self._done = done
            self._undone = undone


def _house_with(stands, done, undone):
    house = House()
    house._stands = stands
    house._done = done
    house._undone = undone
    return house


def house_of(nets, questions):
    """The house with these nets, a dict by their names, ascending, and these pairs (question, whether it is held), no
    deed done."""
    rows = [(question, answer_to(nets, question), is_held) for question, is_held in questions]
    return _house_with((Stand(nets, tuple(rows)),), (), ())
