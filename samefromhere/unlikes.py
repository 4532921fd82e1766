"""Chances that throws make all places unlike, and what throws make of rings."""

from samefromhere.basics import fraction, is_integer, is_row, power
from samefromhere.errors import BadChance, BadMany, BadPeriod
from samefromhere.kinds import kinds_for_ever
from samefromhere.throws import form_at, need_sides, throw_forms


def unlike_chance(net, sides):
    need_sides(sides)
    return fraction(form_at(_unlike_form(net), sides), power(sides, len(net)))


def _unlike_form(net):
    """The form of the last even parting, which has each place alone."""
    return throw_forms(net)[-1][1]


def _need_chance(thing):
    is_pair = is_row(thing) and len(thing) == 2 and all([is_integer(part) for part in thing])
    if not is_pair or thing[1] < 1 or thing[0] < 0 or thing[0] > thing[1]:
        raise BadChance(thing)


def sides_for(net, chance):
    _need_chance(chance)
    top, bottom = chance
    if top == bottom and len(kinds_for_ever(net)) < len(net):
        return None
    form = _unlike_form(net)
    sides = 1
    while form_at(form, sides) * bottom < top * power(sides, len(net)):
        sides += 1
    return sides


def ring_throws(many, period, sides):
    if not is_integer(many) or many < 1:
        raise BadMany(many)
    if not is_integer(period) or period < 1 or many % period != 0:
        raise BadPeriod(period)
    need_sides(sides)
    found = {}
    for kinds in range(period, many + 1, period):
        if many % kinds == 0:
            found[kinds] = power(sides, kinds) - sum([found[part] for part in found if kinds % part == 0])
    return {kinds: count for kinds, count in found.items() if count > 0}
