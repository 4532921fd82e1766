"""Lifts of nets by picks."""

from samefromhere.basics import is_integer, is_number, list_fault
from samefromhere.errors import BadCopies, BadImages, BadPicks
from samefromhere.leastnets import leads_to
from samefromhere.nets import Net, is_place_of, roads_in


def need_copies(base, copies):
    fault = list_fault(copies, len(base), lambda _, many: is_integer(many) and many >= 1)
    if fault is not None:
        raise BadCopies(fault)


def _need_picks(base, copies, picks):
    senders = [[copies[road[0]] for road in roads_in(base, place)] for place in range(len(base))]

    def picks_for_place(place, rows):
        return list_fault(rows, copies[place], lambda _, row: _are_picks(row, senders[place])) is None

    fault = list_fault(picks, len(base), picks_for_place)
    if fault is not None:
        raise BadPicks(fault)


def _are_picks(row, bounds):
    return list_fault(row, len(bounds), lambda at, pick: is_number(pick) and pick < bounds[at]) is None


def first_copies(copies):
    """For each place of the base the number that its first copy has in a lift."""
    return [sum(copies[:place]) for place in range(len(copies))]


def lift(base, copies, picks):
    need_copies(base, copies)
    _need_picks(base, copies, picks)
    begin = first_copies(copies)
    signs = []
    roads = []
    for place, sign in enumerate(base.signs()):
        come = roads_in(base, place)
        for row in picks[place]:
            for (sender, _, out, into), pick in zip(come, row):
                roads.append((begin[sender] + pick, len(signs), out, into))
            signs.append(sign)
    return Net(signs, roads)


def need_images(net, base, images):
    fault = list_fault(images, len(net), lambda _, image: is_place_of(len(base), image))
    if fault is not None:
        raise BadImages(fault)


def covers(net, base, images):
    """Whether net lies over base by these images, and each place of base is one."""
    return len(set(images)) == len(base) and leads_to(net, base, images)


def copy_numbers(images):
    """For each place how many places ahead of it have its image."""
    return [images[:place].count(image) for place, image in enumerate(images)]


def lift_order(many, images):
    """For each place its number in the lift of a base with so many places."""
    begin = first_copies([images.count(place) for place in range(many)])
    return [begin[image] + copy for image, copy in zip(images, copy_numbers(images))]


def picks_back(net, base, images):
    need_images(net, base, images)
    if not covers(net, base, images):
        return None
    kept = list(images)
    copies = tuple([kept.count(place) for place in range(len(base))])
    come = _copies_heard(net, kept)
    picks = []
    for image in range(len(base)):
        keys = [(one, out, into) for one, other, out, into in base.road_keys() if other == image]
        rows = [_row_of_picks(keys, come[place]) for place in range(len(net)) if kept[place] == image]
        picks.append(tuple(rows))
    return copies, tuple(lift_order(len(base), kept)), tuple(picks)


def _copies_heard(net, images):
    """For each place the dict from (image of the sender, out, into) to the senders' copies, ascending."""
    copies = copy_numbers(images)
    come = [{} for _ in images]
    for one, other, out, into in net.road_keys():
        come[other].setdefault((images[one], out, into), []).append(copies[one])
    return come


def _row_of_picks(keys, heard):
    """Alike roads of the base stand one behind another; so they take their copies ascending."""
    row = []
    for at, key in enumerate(keys):
        row.append(heard[key][keys[:at].count(key)])
    return tuple(row)
