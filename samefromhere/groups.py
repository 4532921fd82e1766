"""Groups of rows of numbers that are added part by part, each by its modulus."""

from itertools import permutations

from samefromhere.basics import is_integer, is_number, is_row
from samefromhere.errors import BadModuli, BadSteps, NoGroup, NotWhole

MOST_MODULI = 3


def need_moduli(moduli):
    """A list of its own with the moduli."""
    if not is_row(moduli) or len(moduli) == 0:
        raise BadModuli(0)
    for at, modulus in enumerate(moduli):
        if at >= MOST_MODULI or not is_integer(modulus) or modulus < 1:
            raise BadModuli(at)
    return list(moduli)


def rows_below(moduli):
    """All tuples of numbers below these, ascending."""
    rows = [()]
    for modulus in moduli:
        rows = [row + (number,) for row in rows for number in range(modulus)]
    return rows


def elements_of(moduli):
    return rows_below(need_moduli(moduli))


class Group:
    """The elements of moduli, by their numbers; zero has the number 0."""

    def __init__(self, moduli):
        self.moduli = need_moduli(moduli)
        self.rows = rows_below(self.moduli)
        self._numbers = {row: at for at, row in enumerate(self.rows)}
        self.sums = [[self._sum(one, other) for other in self.rows] for one in self.rows]

    def _sum(self, one, other):
        parts = [(part + more) % modulus for part, more, modulus in zip(one, other, self.moduli)]
        return self._numbers[tuple(parts)]

    def number_of(self, thing):
        """The number of an element, None for any object that is none."""
        if not is_row(thing) or not all([is_number(part) for part in thing]):
            return None
        return self._numbers.get(tuple(thing))

    def turned(self, row, by):
        """Of a row of things, one for each element, that in which each x has what x and this one together had."""
        return [row[self.sums[number][by]] for number in range(len(self.rows))]

    def distances(self, steps):
        """For each element how few of the steps add up to it, None where none do."""
        row = [None] * len(self.rows)
        row[0] = 0
        fresh = [0]
        while fresh:
            later = []
            for number in fresh:
                for step in steps:
                    near = self.sums[number][step]
                    if row[near] is None:
                        row[near] = row[number] + 1
                        later.append(near)
            fresh = later
        return row


def need_steps(group, steps):
    """The numbers of the steps, all elements being sums of them."""
    if not is_row(steps) or len(steps) == 0:
        raise BadSteps(0)
    found = [group.number_of(step) for step in steps]
    if None in found:
        raise BadSteps(found.index(None))
    if None in group.distances(found):
        raise NotWhole()
    return found


def steps_to(moduli, steps):
    group = Group(moduli)
    return tuple(group.distances(need_steps(group, steps)))


def need_subgroup(group, thing):
    """The numbers of the elements of a subgroup."""
    found = _subgroup_numbers(group, thing)
    if found is None:
        raise NoGroup(thing)
    return found


def _subgroup_numbers(group, thing):
    if not is_row(thing):
        return None
    found = [group.number_of(element) for element in thing]
    if None in found or 0 not in found or not all([one < other for one, other in zip(found, found[1:])]):
        return None
    return found if all([group.sums[one][other] in found for one in found for other in found]) else None


def all_subgroups(group):
    """The lists of the numbers of the elements of all subgroups, fewer ones first, then ascending."""
    found = {(0,): True}
    todo = [(0,)]
    while todo:
        lot = todo.pop()
        for number in range(len(group.rows)):
            if number not in lot:
                larger = _with_element(group, lot, number)
                if larger not in found:
                    found[larger] = True
                    todo.append(larger)
    return sorted([list(lot) for lot in found], key=lambda lot: (len(lot), lot))


def _with_element(group, lot, number):
    """The least subgroup with all of this one and an element."""
    grown = list(lot)
    more = number
    while more not in lot:
        grown.extend([group.sums[one][more] for one in lot])
        more = group.sums[more][number]
    return tuple(sorted(grown))


def subgroups(moduli):
    group = Group(moduli)
    return [[group.rows[number] for number in lot] for lot in all_subgroups(group)]


def quotient(moduli, subgroup):
    group = Group(moduli)
    return quotient_by(group, need_subgroup(group, subgroup))


def quotient_by(group, lot):
    """The quotient by the subgroup of elements with these numbers. Its elements are rows of whole numbers, taken
    alike where they differ by sums of moduli and of the subgroup; in a diagonal form one reads them part by part."""
    many = len(group.moduli)
    nothing = [[0] * many for _ in range(many)]
    for at, modulus in enumerate(group.moduli):
        nothing[at][at] = modulus
    sizes, turned = diagonal_form(nothing + [list(group.rows[number]) for number in lot])
    kept = [at for at, size in enumerate(sizes) if size > 1]
    if not kept:
        return [1], tuple([(0,) for _ in group.rows])
    images = []
    for row in group.rows:
        parts = [sum([part * turned[spot][at] for spot, part in enumerate(row)]) % sizes[at] for at in kept]
        images.append(tuple(parts))
    return [sizes[at] for at in kept], tuple(images)


def diagonal_form(rows):
    """For rows of whole numbers whose sums and differences have, of each column, a multiple that stands alone: the
    pair (sizes, turned) of a list of numbers from 1 on, each dividing the next one, and a list of rows, such that
    just the sums of the given rows, multiplied by turned, have in each column a multiple of its size."""
    work = [list(row) for row in rows]
    many = len(work[0])
    turned = [[1 if at == other else 0 for other in range(many)] for at in range(many)]
    for at in range(many):
        done = False
        while not done:
            _put_least_first(work, turned, at)
            _take_off_rows(work, at)
            _take_off_columns(work, turned, at)
            done = _is_alone(work, at) and _divides_all(work, at)
    return [abs(work[at][at]) for at in range(many)], turned


def _put_least_first(work, turned, at):
    """Brings the least number but 0 of those that are left to the diagonal."""
    _, row, column = min([(abs(number), down, across) for down, line in enumerate(work) if down >= at
                          for across, number in enumerate(line) if across >= at and number != 0])
    work[at], work[row] = work[row], work[at]
    for line in work + turned:
        line[at], line[column] = line[column], line[at]


def _take_off_rows(work, at):
    for row in range(at + 1, len(work)):
        times = work[row][at] // work[at][at]
        work[row] = [number - times * less for number, less in zip(work[row], work[at])]


def _take_off_columns(work, turned, at):
    for column in range(at + 1, len(work[0])):
        times = work[at][column] // work[at][at]
        for line in work + turned:
            line[column] -= times * line[at]


def _is_alone(work, at):
    """Whether its row and its column have 0 else."""
    return not any(work[at][at + 1:]) and not any([line[at] for line in work[at + 1:]])


def _divides_all(work, at):
    """Whether it divides all that is left; if not, a row that has others is added, which leads to a lesser one."""
    for line in work[at + 1:]:
        if any([number % work[at][at] for number in line[at + 1:]]):
            work[at] = [number + more for number, more in zip(work[at], line)]
            return False
    return True


def mirrors(moduli, steps):
    group = Group(moduli)
    found = all_mirrors(group, need_steps(group, steps))
    return [tuple([group.rows[number] for number in mirror]) for mirror in found]


def all_mirrors(group, steps):
    """The lists of the numbers to which the mirrors lead the elements, ascending."""
    unlike = sorted(set(steps))
    many = [steps.count(step) for step in unlike]
    found = []
    for images in permutations(unlike):
        if [steps.count(image) for image in images] == many:
            mirror = _led_on(group, {step: image for step, image in zip(unlike, images)})
            if mirror is not None:
                found.append(mirror)
    return sorted(found)


def _led_on(group, images):
    """Where the elements are led, if steps are led so and sums to sums; None if not all are images so."""
    led = {0: 0}
    todo = [0]
    while todo:
        number = todo.pop()
        for step, image in images.items():
            near = group.sums[number][step]
            far = group.sums[led[number]][image]
            if near not in led:
                led[near] = far
                todo.append(near)
            if led[near] != far:
                return None
    row = [led[number] for number in range(len(group.rows))]
    return row if len(set(row)) == len(row) else None
