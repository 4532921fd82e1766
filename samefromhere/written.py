"""Wishes that are written by words."""

from samefromhere.basics import is_integer, is_row, is_word, read_word, word_key
from samefromhere.errors import BadWritten
from samefromhere.madenets import need_nets


def written(nets, word):
    kept = need_nets(nets)
    read = read_written(word, len(kept))
    if read is None:
        raise BadWritten(word)
    name, more = read
    if name == "head":
        return [0, 1], _heads
    if name == "names":
        return list(range(sum([len(net) for net in kept]))), _all_unlike
    if name == "colours":
        return list(range(more)), _colours(kept)
    if name == "steps":
        return list(range(-1, max([len(net) for net in kept]))), _steps(kept, more)
    if name == "true":
        return _unlike_words(more), _facts(more)
    out_marks = [road[2] for net in kept for road in net.roads()]
    return [()] + [(mark,) for mark in _unlike_words(out_marks)], _trees(kept)


def read_written(thing, many):
    """The pair (name, what stands behind it) of a word for so many nets, None for what is no such word."""
    if isinstance(thing, str):
        return (thing, None) if thing in ("head", "names", "tree") else None
    if not is_row(thing) or len(thing) != 2:
        return None
    name, more = thing
    if not isinstance(name, str):
        return None
    if name == "colours":
        return (name, more) if is_integer(more) and more >= 1 else None
    if name == "steps":
        return (name, read_word(more)[0]) if is_word(more) else None
    if name == "true" and is_row(more) and len(more) == many and is_word(more):
        return name, read_word(more)[0]
    return None


def _unlike_words(words):
    found = {word_key(word): word for word in words}
    return [found[key] for key in sorted(found)]


def _keys(answers):
    """The flat keys of answers, which may be lists for tuples; None for what is no word."""
    read = [read_word(answer) for answer in answers]
    return [None if pair is None else pair[1] for pair in read]


def _heads(index, answers):
    return _keys(answers).count(word_key(1)) == 1


def _all_unlike(index, answers):
    keys = _keys(answers)
    return len(set(keys)) == len(keys)


def _colours(nets):
    def right(index, answers):
        keys = _keys(answers)
        return all([keys[road[0]] != keys[road[1]] for road in nets[index].roads()])

    return right


def _steps(nets, sign):
    ways = [_ways_from(net, word_key(sign)) for net in nets]

    def right(index, answers):
        return _keys(answers) == [word_key(steps) for steps in ways[index]]

    return right


def _ways_from(net, sign):
    """For each place how many roads the shortest way from a place with this sign has, -1 if there is none."""
    steps = [0 if key == sign else -1 for key in net.sign_keys()]
    for done in range(len(net)):
        found = [road[1] for road in net.roads() if steps[road[0]] == done]
        steps = [done + 1 if here < 0 and place in found else here for place, here in enumerate(steps)]
    return steps


def _facts(facts):
    keys = [word_key(fact) for fact in facts]

    def right(index, answers):
        return all([key == keys[index] for key in _keys(answers)])

    return right


def _trees(nets):
    def right(index, answers):
        return _is_tree(nets[index], _keys(answers))

    return right


def _is_tree(net, keys):
    """Whether one place tells (), and each other one the mark of one road, by which one comes on to that place."""
    heads = [place for place, key in enumerate(keys) if key == word_key(())]
    if len(heads) != 1:
        return False
    goes = {}
    for place, key in enumerate(keys):
        if place != heads[0]:
            doors = [other for one, other, out, _ in net.road_keys() if one == place and _door_key(out) == key]
            if len(doors) != 1:
                return False
            goes[place] = doors[0]
    return all([_comes_to(goes, place, len(net)) == heads[0] for place in range(len(net))])


def _door_key(mark):
    """The flat key of (mark,), made of that of the mark."""
    lead = word_key(())
    return lead[:1] + mark + lead[1:]


def _comes_to(goes, place, most):
    spot = place
    for _ in range(most):
        spot = goes.get(spot, spot)
    return spot
