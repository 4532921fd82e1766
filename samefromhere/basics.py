"""What all parts of the package stand on: kinds of objects, words and their order, lists, lots, pairings."""

from math import gcd

from samefromhere.errors import NetError, NoWord

# A list that holds itself has no end; so what lies deeper than any word of a caller is no word.
DEEPEST = 5000

# Flat keys: each part of a word is led by one of these, so that keys compare as words do.
END_MARK = 0
INTEGER_MARK = 1
STRING_MARK = 2
TUPLE_MARK = 3


class Thing:
    """Base of the objects that the package makes, so that none of them passes for a function."""


def is_integer(thing):
    return isinstance(thing, int) and not isinstance(thing, bool)


def is_number(thing):
    return is_integer(thing) and thing >= 0


def is_row(thing):
    return isinstance(thing, (list, tuple))


def is_function(thing):
    if thing is None or isinstance(thing, (int, str, bytes, list, tuple, dict)):
        return False
    return not isinstance(thing, Thing) and not isinstance(thing, NetError)


def is_same(one, other):
    """Whether any two objects are the same; words are so just if they are equal."""
    todo = [(one, other)]
    while todo:
        near, far = todo.pop()
        parts = _parts_beside(near, far)
        if parts is None:
            return False
        todo.extend(parts)
    return True


def _parts_beside(one, other):
    """The pairs of parts of any two objects that are the same if all these are, None if they are unlike."""
    # Python's own == would tell lists from tuples, but not truths from integers.
    if is_row(one) and is_row(other):
        return list(zip(one, other)) if len(one) == len(other) else None
    if isinstance(one, dict) and isinstance(other, dict):
        keys = {key: key for key in other}
        if len(one) != len(other) or not all([key in keys for key in one]):
            return None
        return [(key, keys[key]) for key in one] + [(one[key], other[key]) for key in one]
    if isinstance(one, bool) != isinstance(other, bool) or one != other:
        return None
    return []


def read_word(thing):
    """The pair (word as tuples, flat key), None for what is no word."""
    if isinstance(thing, str):
        return thing, (STRING_MARK, thing)
    if is_integer(thing):
        return thing, (INTEGER_MARK, thing)
    if not is_row(thing):
        return None
    flat = [TUPLE_MARK]
    around = []
    row = thing
    at = 0
    has_list = isinstance(thing, list)
    while len(around) < DEEPEST:
        if at == len(row):
            flat.append(END_MARK)
            if not around:
                return (_built(flat) if has_list else thing), tuple(flat)
            row, at = around.pop()
            continue
        part = row[at]
        at += 1
        if isinstance(part, (tuple, list)):
            has_list = has_list or isinstance(part, list)
            flat.append(TUPLE_MARK)
            around.append((row, at))
            row = part
            at = 0
        elif isinstance(part, str):
            flat += (STRING_MARK, part)
        elif isinstance(part, int) and not isinstance(part, bool):
            flat += (INTEGER_MARK, part)
        else:
            return None
    return None


def _built(flat):
    """The word with this key."""
    built = [[]]
    at = 0
    while at < len(flat):
        mark = flat[at]
        if mark == TUPLE_MARK:
            built.append([])
        elif mark == END_MARK:
            done = tuple(built.pop())
            built[-1].append(done)
        else:
            at += 1
            built[-1].append(flat[at])
        at += 1
    return built[0][0]


def is_word(thing):
    return read_word(thing) is not None


def word_key(word):
    """The flat key of what is known to be a word: keys compare as words do, and are short of depth."""
    _, key = read_word(word)
    return key


class WordTable:
    """Gives unlike words numbers, so that they are told apart at once."""

    def __init__(self):
        self._numbers = {}
        self._words = []
        self._keys = []

    def number(self, thing):
        """The number of a word, None for what is none."""
        read = read_word(thing)
        if read is None:
            return None
        word, key = read
        if key not in self._numbers:
            self._numbers[key] = len(self._words)
            self._words.append(word)
            self._keys.append(key)
        return self._numbers[key]

    def word(self, number):
        return self._words[number]

    def key(self, number):
        return self._keys[number]

    def taken(self, thing):
        """The number of what a function told that is to tell a word."""
        number = self.number(thing)
        if number is None:
            raise NoWord(thing)
        return number


def first_fault(thing, is_good):
    """None, or the index of the first thing in a list that is not good."""
    if not is_row(thing):
        return 0
    for at, item in enumerate(thing):
        if not is_good(item):
            return at
    return None


def list_fault(thing, many, is_good):
    """None, or the index that tells what is wrong with a list that is to have so many things."""
    if not is_row(thing):
        return 0
    for at, item in enumerate(thing):
        if at >= many or not is_good(at, item):
            return at
    if len(thing) < many:
        return len(thing)
    return None


def numbers_fault(thing, many, is_good):
    """None, or the index that tells what is wrong with a list of so many: the first that is not good, else the lesser
    one of both lengths."""
    fault = first_fault(thing, is_good)
    if fault is not None or len(thing) == many:
        return fault
    return min(len(thing), many)


def unlike_fault(thing, is_good):
    """None, or the index of the first thing in a list that is not good or stood before."""
    if not is_row(thing):
        return 0
    for at, item in enumerate(thing):
        if not is_good(item) or item in thing[:at]:
            return at
    return None


def power(number, times):
    found = 1
    for _ in range(times):
        found *= number
    return found


def fraction(top, bottom):
    """The fraction in lowest terms, bottom being above 0."""
    divisor = gcd(top, bottom)
    return top // divisor, bottom // divisor


def words_fault(thing):
    """None, or the index of the first thing in a list of one or more that is no word or stood before."""
    if not is_row(thing) or len(thing) == 0:
        return 0
    known = {}
    for at, item in enumerate(thing):
        read = read_word(item)
        if read is None or read[1] in known:
            return at
        known[read[1]] = True
    return None


class WordList:
    """A list of unlike words."""

    def __init__(self, words):
        read = [read_word(word) for word in words]
        self.words = tuple([word for word, _ in read])
        self._order = {key: at for at, (_, key) in enumerate(read)}

    def number_of(self, thing):
        """The index of the word that any object is, None if it is none of these."""
        read = read_word(thing)
        return None if read is None else self._order.get(read[1])


def numbered(things):
    """The dict from each unlike thing to its number, from 0 on, ascending."""
    return {thing: at for at, thing in enumerate(sorted(set(things)))}


def numbers_of(things):
    """For each thing its number among the unlike ones, ascending."""
    order = numbered(things)
    return [order[thing] for thing in things]


def first_labels(things):
    """For each thing its number among the unlike ones, as they come."""
    order = {}
    for thing in things:
        order.setdefault(thing, len(order))
    return [order[thing] for thing in things]


def grouped(labels):
    """The lists of the indexes with one label, by their least indexes."""
    lots = {}
    for at, label in enumerate(labels):
        lots.setdefault(label, []).append(at)
    return list(lots.values())


def lots_of(many, pairs):
    """The lists of the numbers below many that pairs join, each ascending, by their least numbers."""
    beside = [[] for _ in range(many)]
    for one, other in pairs:
        beside[one].append(other)
        beside[other].append(one)
    labels = [-1] * many
    for start in range(many):
        if labels[start] < 0:
            labels[start] = start
            todo = [start]
            while todo:
                for near in beside[todo.pop()]:
                    if labels[near] < 0:
                        labels[near] = start
                        todo.append(near)
    return grouped(labels)


def row_after(row, bound):
    """The tuple of numbers below bound that comes behind this one, None behind the last."""
    at = len(row) - 1
    while at >= 0 and row[at] == bound - 1:
        at -= 1
    if at < 0:
        return None
    return row[:at] + (row[at] + 1,) + (0,) * (len(row) - at - 1)


def all_rows(many, bound):
    """The tuples of so many numbers below bound, as rows compare."""
    found = [()]
    for _ in range(many):
        found = [row + (number,) for row in found for number in range(bound)]
    return found


def can_pair(options, many):
    """Whether each list of options, there being so many, can be given one of its own."""
    if len(options) != many:
        return False
    owner = {}
    held = {}
    for start in range(many):
        came = {}
        free = _free_end(options, start, owner, came)
        if free is None:
            return False
        while free is not None:
            left = came[free]
            given_up = held.get(left)
            owner[free] = left
            held[left] = free
            free = given_up
    return True


def _free_end(options, start, owner, came):
    todo = [start]
    while todo:
        left = todo.pop()
        for right in options[left]:
            if right not in came:
                came[right] = left
                if right not in owner:
                    return right
                todo.append(owner[right])
    return None
