"""What the tests share: sample nets, any objects, and slow ways to tell what the document says."""

import functools
import itertools
import random

from samefromhere.errors import BadSigns, NetError
from samefromhere.houses import House
from samefromhere.nets import Net
from samefromhere.pieces import Piece


def ring(signs, mark=""):
    many = len(signs)
    return Net(list(signs), [(i, (i + 1) % many, mark, mark) for i in range(many)])


def two_way(signs, ways):
    """A two-way net: ways are (one, other, out, into), half loops once."""
    roads = []
    for one, other, out, into in ways:
        roads.append((one, other, out, into))
        if (one, out) != (other, into):
            roads.append((other, one, into, out))
    return Net(signs, roads)


R = ring(["a", "b", "a", "b"])
S = Net(["x", "y", "y"], [(0, 1, "", ""), (0, 2, "", "")])
LONE = Net(["a"], [])
LOOPS = Net(["s"], [(0, 0, "h", "h"), (0, 0, "x", "y"), (0, 0, "y", "x")])
HALF = Net(["s"], [(0, 0, "h", "h")])
TWO_HALVES = Net(["s"], [(0, 0, "h", "h"), (0, 0, "g", "g")])
PATH = two_way(["a", "a", "a"], [(0, 1, "r", "l"), (1, 2, "r", "l")])
TREE_HALF = two_way(["a", "b"], [(0, 1, 0, 0), (1, 1, "h", "h")])
TRIANGLE = two_way(["a", "a", "a"], [(0, 1, 0, 1), (1, 2, 0, 1), (2, 0, 0, 1)])
DOUBLE = two_way(["a", "b"], [(0, 1, 0, 0), (0, 1, 1, 1)])
TWO_WAYS = [LONE, LOOPS, HALF, TWO_HALVES, PATH, TREE_HALF, TRIANGLE, DOUBLE]

ODD_WORDS = [-3, 0, 7, "", "b", "ab", (), (0,), ("",), ((),), (-1, "x"), (-1, ("x", ())), ((), 3), ((0, 1), 2)]


def random_net(seed, most=6, signs=2, road_words=2, roads=9):
    pick = random.Random(seed)
    many = pick.randint(1, most)
    words = [pick.choice(ODD_WORDS) for _ in range(signs)]
    ends = [pick.choice(ODD_WORDS) for _ in range(road_words)]
    rows = [(pick.randrange(many), pick.randrange(many), pick.choice(ends), pick.choice(ends))
            for _ in range(pick.randint(0, roads))]
    return Net([pick.choice(words) for _ in range(many)], rows)


def random_tree(pick, most):
    """How many places, what tells a new door of a place, and the ways of a tree."""
    many = pick.randint(1, most)
    doors = [0] * many
    ways = []

    def door(place):
        doors[place] += 1
        return doors[place]

    for place in range(1, many):
        near = pick.randrange(place)
        ways.append((near, place, door(near), door(place)))
    return many, door, ways


def random_two_way(seed, most=5):
    """A joined two-way net with doors numbered place by place, perhaps with half loops."""
    pick = random.Random(seed)
    many, door, ways = random_tree(pick, most)
    for _ in range(pick.randint(0, 2)):
        one, other = pick.randrange(many), pick.randrange(many)
        if one == other and pick.random() < 0.5:
            mark = door(one)
            ways.append((one, one, mark, mark))
        else:
            ways.append((one, other, door(one), door(other)))
    return two_way([pick.choice("ab") for _ in range(many)], ways)


def samples(many=30, **more):
    """Nets of many kinds: fixed ones, rows, rings, several beside one another, and random ones."""
    row = Net(["a"] * 5, [(i, i + 1, "", "") for i in range(4)])
    twice = Net(["a", "a"], [(0, 1, 0, 0), (0, 1, 0, 0), (1, 1, 0, 1), (1, 0, 0, 0)])
    apart = Net(["a"] * 5, [(0, 1, "", ""), (1, 0, "", ""), (2, 3, "", ""), (3, 4, "", ""), (4, 2, "", "")])
    words = Net(ODD_WORDS[:6], [(i, (i * 2 + 1) % 6, ODD_WORDS[i + 4], ODD_WORDS[i + 8]) for i in range(6)])
    return [R, S, row, twice, apart, words, ring("abb")] + TWO_WAYS + [random_net(seed, **more) for seed in range(many)]


PIECE = Piece(["a", "a"], [(1, 0, "", "")], [[(1, "x")], [(1, "x")]], [(0, "")])

ANY_OBJECTS = [True, False, None, 0, -1, 5, 10 ** 30, "", "a", "net", [], (), {}, {"a": 1}, {0: 0}, [None], (True,),
               [[True]], ["a", [0, [None]]], [0], (0, 0), [[0]], [(0, 0, "", "")], len, max, lambda *rest: 0, LONE, R,
               NetError(), BadSigns(0), [LONE], [[], {}], ("sign",), ("sign", None), (0, "a"), (1, "a", ((0, 0, 0),)),
               Piece([], [], [], []), PIECE, [PIECE], House(), {"r": House()}, ("kinds", "r"), ("drop", "r")]


def not_words():
    return [thing for thing in ANY_OBJECTS if not word_like(thing)]


def word_like(thing):
    if isinstance(thing, (list, tuple)):
        return all(word_like(part) for part in thing)
    return isinstance(thing, str) or (isinstance(thing, int) and not isinstance(thing, bool))


def as_tuples(thing):
    return tuple(as_tuples(part) for part in thing) if isinstance(thing, (list, tuple)) else thing


def as_lists(thing):
    return [as_lists(part) for part in thing] if isinstance(thing, (list, tuple)) else thing


def compare_words(one, other):
    """-1, 0, 1 by the order of words, told as point 3 tells it."""
    sorts = [0 if isinstance(word, int) else 1 if isinstance(word, str) else 2 for word in (one, other)]
    if sorts[0] != sorts[1]:
        return -1 if sorts[0] < sorts[1] else 1
    if sorts[0] < 2:
        return (one > other) - (one < other)
    for left, right in zip(one, other):
        told = compare_words(left, right)
        if told:
            return told
    return (len(one) > len(other)) - (len(one) < len(other))


def ascending(words):
    return sorted(words, key=functools.cmp_to_key(compare_words))


def slow_view(net, place, rounds):
    sign = net.signs()[place]
    if rounds == 0:
        return 0, sign, ()
    triples = [(into, out, slow_view(net, one, rounds - 1))
               for one, other, out, into in net.roads() if other == place]
    return rounds, sign, tuple(ascending(triples))


def slow_kinds(net, rounds):
    """Kinds told by which labels are equal round by round, without ranks."""
    labels = [str(sign) + str(type(sign)) for sign in net.signs()]
    for _ in range(rounds):
        labels = [str((labels[place], sorted(str((into, out, labels[one])) for one, other, out, into in net.roads()
                                             if other == place))) for place in range(len(net))]
        names = {label: str(at) for at, label in enumerate(sorted(set(labels)))}
        labels = [names[label] for label in labels]
    lots = {}
    for place, label in enumerate(labels):
        lots.setdefault(label, []).append(place)
    return list(lots.values())


def all_partings(many):
    """All partings of the places below many, as lists of lists."""
    found = [[]]
    for place in range(many):
        grown = []
        for parting in found:
            grown.append(parting + [[place]])
            for at in range(len(parting)):
                grown.append([lot + [place] if at == spot else lot for spot, lot in enumerate(parting)])
        found = grown
    return found


def slow_even(net, parting):
    for lot in parting:
        for one, other in itertools.combinations(lot, 2):
            if net.signs()[one] != net.signs()[other] or not slow_like_roads(net, parting, one, other):
                return False
    return True


def slow_like_roads(net, parting, one, other):
    told = []
    for place in (one, other):
        row = [(str((out, into)), at) for sender, to, out, into in net.roads() if to == place
               for at, lot in enumerate(parting) if sender in lot]
        told.append(sorted(row))
    return told[0] == told[1]


class Counting:
    """A plan that counts with what its functions are asked."""

    def __init__(self, plan):
        self.asked = []
        self.functions = tuple(self.watch(name, part) for name, part in enumerate(plan))

    def watch(self, name, part):
        def asked(*given):
            self.asked.append((name, given))
            return part(*given)

        return asked


def mix_plan(modulus=5):
    """A plan that forgets: states are small numbers, so unlike places often do alike."""
    def value(word):
        return sum(map(value, word)) * 3 + 1 if isinstance(word, tuple) else len(word) if isinstance(word, str) else word

    return (lambda sign: value(sign) % modulus,
            lambda state, out: (state + value(out)) % modulus,
            lambda state, heard: (state + value(heard)) % modulus,
            lambda state: {"told": state})


def bases(many=20, most=4, roads=7):
    """Strong nets of places of unlike kinds: fixed ones and random ones."""
    from samefromhere.leastnets import least_net
    from samefromhere.shapes import is_strong
    two = Net(["a", "b"], [(0, 1, "", 0), (0, 1, "", 1), (1, 0, "", "")])
    loops = Net(["a"], [(0, 0, 0, 0), (0, 0, 1, 1)])
    found = [two, Net(["a"], [(0, 0, "", "")]), loops, ring("abc"), Net(["a", "b"], two.roads() + [(0, 0, "", "")]),
             Net(["a", "b", "c"], [(0, 1, "", ""), (1, 2, "", ""), (2, 0, "", ""), (1, 0, "", "")])]
    seed = 0
    while len(found) < many:
        pick = random.Random(seed)
        seed += 1
        places = pick.randint(1, most)
        rows = [(i, (i + 1) % places, 0, 0) for i in range(places)]
        rows += [(pick.randrange(places), pick.randrange(places), pick.randrange(2), pick.randrange(2))
                 for _ in range(pick.randint(0, roads - places))]
        net = least_net(Net([pick.choice(["a", "b", 3]) for _ in range(places)], rows))
        if is_strong(net) and net not in found:
            found.append(net)
    return found


def faults(call, error, name, pairs):
    """Checks that call(thing) raises this error, just this class, holding what each pair of (thing, held) tells."""
    for thing, held in pairs:
        try:
            call(thing)
        except NetError as caught:
            told = getattr(caught, name)
            if type(caught) is not error or told is not held and told != held:
                raise AssertionError((thing, caught, told, held))
        else:
            raise AssertionError((thing, "nothing raised"))


def list_pairs(many, good, is_good, both_ways=False):
    """Pairs (thing, index) of faulty lists of so many things, good being a good one. With both_ways the first thing
    that is none comes ahead of what is one too many, which holds the lesser one of both lengths."""
    pairs = [(thing, 0) for thing in ANY_OBJECTS if not isinstance(thing, (list, tuple))]
    for at in range(many):
        for thing in ANY_OBJECTS:
            if not is_good(at, thing):
                pairs.append((good[:at] + [thing] + good[at + 1:], at))
                pairs.append((tuple(good[:at]) + (thing, None), at))
        pairs.append((good[:at], at))
    pairs.append((good + [good[0] if good else 0], many))
    pairs.append((good + [None], many))
    if both_ways:
        pairs.append((good + [good[0], None], many + 1))
    else:
        pairs.append((good + [good[0] if good else 0, None], many))
    return pairs


def random_shut(seed, most=5):
    """A tree with doors numbered place by place, every second time with one half loop."""
    pick = random.Random(seed)
    many, door, ways = random_tree(pick, most)
    if seed % 2:
        place = pick.randrange(many)
        mark = door(place)
        ways.append((place, place, mark, mark))
    return two_way([pick.choice("ab") for _ in range(many)], ways)


def tree_of_ways(seen):
    """The signs and roads of the tree of ways in a view, told straight from point 58, and where it is open."""
    signs = []
    roads = []
    ends = []

    def go(inner, came):
        place = len(signs)
        signs.append(inner[1])
        if inner[0] == 0:
            ends.append(place)
        for into, out, below in inner[2]:
            if came == (into,):
                continue
            near = go(below, (out,))
            roads.append((place, near, into, out))
            roads.append((near, place, out, into))
        return place

    go(seen, None)
    return signs, roads, ends


def slow_door_view(seen):
    """Of a view: whether the tree of its ways is a two-way net in which it is the first place's."""
    signs, roads, _ = tree_of_ways(seen)
    from samefromhere.shapes import is_two_way
    from samefromhere.views import view
    net = Net(signs, roads)
    return is_two_way(net) and view(net, 0, seen[0]) == seen
