"""Throws: each place throws a number; how many throws make which places alike."""

from samefromhere.basics import all_rows, is_integer, is_number, numbers_fault
from samefromhere.errors import BadSides, BadThrow
from samefromhere.marking import numbered_signs
from samefromhere.partings import even_partings, labels_of, need_even


def need_sides(sides):
    if not is_integer(sides) or sides < 1:
        raise BadSides(sides)


def thrown(net, throw):
    fault = numbers_fault(throw, len(net), is_number)
    if fault is not None:
        raise BadThrow(fault)
    return numbered_signs(net, throw)


def throws_of(net, sides):
    need_sides(sides)
    return all_rows(len(net), sides)


def throw_forms(net):
    """The pairs (even parting, form), in their order, by which the throws are counted that make just these places
    alike: the sum of each number of the form times sides to the power of its index."""
    found = []
    for parting in even_partings(net):
        form = [1 if size == len(parting) else 0 for size in range(len(net) + 1)]
        # Throws alike within each list make this parting, or one with fewer lists made of these.
        for fewer, known in found:
            if _is_made_of(net, fewer, parting):
                form = [number - less for number, less in zip(form, known)]
        found.append((parting, form))
    return found


def _is_made_of(net, fewer, parting):
    """Whether each list of a parting lies within one of the other."""
    labels = labels_of(net, fewer)
    return all([labels[place] == labels[lot[0]] for lot in parting for place in lot])


def form_at(form, sides):
    found = 0
    for number in reversed(form):
        found = found * sides + number
    return found


def throws_with(net, parting, sides):
    need_even(net, parting)
    need_sides(sides)
    wanted = [list(lot) for lot in parting]
    return [form_at(form, sides) for known, form in throw_forms(net) if known == wanted][0]


def throw_counts(net, sides):
    need_sides(sides)
    counts = [(tuple([tuple(lot) for lot in parting]), form_at(form, sides)) for parting, form in throw_forms(net)]
    return [pair for pair in counts if pair[1] > 0]
