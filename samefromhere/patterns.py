"""Patterns of signs on the elements of a group, and what turns leave as it is."""

from samefromhere.basics import lots_of, power
from samefromhere.groups import Group, all_mirrors, all_subgroups, need_steps, need_subgroup, quotient_by
from samefromhere.plans import need_rounds
from samefromhere.turnnets import need_signs


def own_turns(moduli, signs):
    group = Group(moduli)
    return [group.rows[turn] for turn in _turns_of(group, need_signs(group, signs))]


def _turns_of(group, words):
    """The numbers of the elements by which the pattern can be turned and is the same."""
    return [turn for turn in range(len(group.rows)) if group.turned(words, turn) == words]


def rounds_to_part(moduli, steps, signs):
    group = Group(moduli)
    numbers = need_steps(group, steps)
    words = need_signs(group, signs)
    apart = len(group.rows) // len(_turns_of(group, words))
    rounds = 0
    distances = group.distances(numbers)
    while _lots_behind(group, distances, words, rounds) < apart:
        rounds += 1
    return rounds


def _lots_behind(group, distances, words, rounds):
    """How many places are unlike behind so many rounds: a place sees the signs from which so few steps lead to it."""
    labels = [words.index(word) for word in words]
    seen = [[] for _ in words]
    for number, distance in enumerate(distances):
        if distance <= rounds:
            for place, label in enumerate(labels):
                seen[group.sums[place][number]].append(label)
    return len(set([tuple(row) for row in seen]))


def turn_base(moduli, steps, signs):
    group = Group(moduli)
    numbers = need_steps(group, steps)
    words = need_signs(group, signs)
    least, images = quotient_by(group, _turns_of(group, words))
    sign = {image: word for image, word in zip(images, words)}
    return least, [images[number] for number in numbers], [sign[image] for image in sorted(sign)]


def _counts(group, many):
    """The list of the pairs (numbers of a subgroup, how many patterns have just it as own turns)."""
    found = []
    for lot in reversed(all_subgroups(group)):
        # All subgroups that hold this one and more are greater; so they stand in the list already.
        less = [count for larger, count in found if all([number in larger for number in lot])]
        found.append((lot, power(many, len(group.rows) // len(lot)) - sum(less)))
    return found


def patterns_of(moduli, subgroup, many):
    group = Group(moduli)
    wanted = need_subgroup(group, subgroup)
    need_rounds(many)
    return sum([count for lot, count in _counts(group, many) if lot == wanted])


def pattern_counts(moduli, many):
    group = Group(moduli)
    need_rounds(many)
    found = {}
    for lot, count in _counts(group, many):
        kinds = len(group.rows) // len(lot)
        found[kinds] = found.get(kinds, 0) + count
    return {kinds: found[kinds] for kinds in sorted(found) if found[kinds] > 0}


def turn_between(moduli, one, other):
    group = Group(moduli)
    words = need_signs(group, one)
    wanted = need_signs(group, other)
    for turn, element in enumerate(group.rows):
        if group.turned(words, turn) == wanted:
            return element
    return None


def mirrored_kinds(moduli, steps, signs):
    group = Group(moduli)
    numbers = need_steps(group, steps)
    words = need_signs(group, signs)
    pairs = []
    for mirror in all_mirrors(group, numbers):
        for turn in range(len(group.rows)):
            led = [group.sums[image][turn] for image in mirror]
            if [words[image] for image in led] == words:
                pairs.extend(list(enumerate(led)))
    return lots_of(len(group.rows), pairs)


def apart_answers(moduli, steps, signs, many):
    group = Group(moduli)
    numbers = need_steps(group, steps)
    turns = _turns_of(group, need_signs(group, signs))
    need_rounds(many)
    kind_of = [min([row[turn] for turn in turns]) for row in group.sums]
    kinds = sorted(set(kind_of))
    beside = {kind: [] for kind in kinds}
    for kind in kinds:
        for step in numbers:
            near = kind_of[group.sums[kind][step]]
            beside[kind].append(near)
            beside[near].append(kind)
    if 0 in beside[0]:
        return None
    colours = {}
    if not _colours_found(_order_by_nearness(beside), beside, many, colours):
        return None
    return [colours[kind] for kind in kind_of]


def _order_by_nearness(beside):
    """The kinds, each but the first behind one beside it: so colours that cannot be are met early."""
    order = [0]
    while len(order) < len(beside):
        near = [kind for kind in beside if kind not in order and any([other in order for other in beside[kind]])]
        order.append(near[0])
    return order


def _colours_found(order, beside, many, colours):
    """Whether the kinds that lack a colour can have one, which they get."""
    if len(colours) == len(order):
        return True
    kind = order[len(colours)]
    # Colours that no kind has are as good as one another.
    fresh = max(list(colours.values()) + [-1]) + 1
    for colour in range(min(many, fresh + 1)):
        if not any([colours.get(near) == colour for near in beside[kind]]):
            colours[kind] = colour
            if _colours_found(order, beside, many, colours):
                return True
            del colours[kind]
    return False
