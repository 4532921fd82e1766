"""Whole rows told by sizes along a diagonal."""


def diagonal_form(rows):
    """For rows of whole numbers whose sums and differences have, of each column, a multiple that stands alone: the
    pair (sizes, turned) of a list of numbers from 1 on, each dividing the next one, and a list of rows, such that
    just the sums of the given rows, multiplied by turned, have in each column a multiple of its size."""
    work = [list(row) for row in rows]
    many = len(work[0])
    turned = [[1 if at == other else 0 for other in range(many)] for at in range(many)]
    for at in range(many):
        done = False
        while not done:
            _put_least_first(work, turned, at)
            _take_off_rows(work, at)
            _take_off_columns(work, turned, at)
            done = _is_alone(work, at) and _divides_all(work, at)
    return [abs(work[at][at]) for at in range(many)], turned


def _put_least_first(work, turned, at):
    """Brings the least number but 0 of those that are left to the diagonal."""
    _, row, column = min([(abs(number), down, across) for down, line in enumerate(work) if down >= at
                          for across, number in enumerate(line) if across >= at and number != 0])
    work[at], work[row] = work[row], work[at]
    for line in work + turned:
        line[at], line[column] = line[column], line[at]


def _take_off_rows(work, at):
    for row in range(at + 1, len(work)):
        times = work[row][at] // work[at][at]
        work[row] = [number - times * less for number, less in zip(work[row], work[at])]


def _take_off_columns(work, turned, at):
    for column in range(at + 1, len(work[0])):
        times = work[at][column] // work[at][at]
        for line in work + turned:
            line[column] -= times * line[at]


def _is_alone(work, at):
    """Whether its row and its column have 0 else."""
    return not any(work[at][at + 1:]) and not any([line[at] for line in work[at + 1:]])


def _divides_all(work, at):
    """Whether it divides all that is left; if not, a row that has others is added, which leads to a lesser one."""
    for line in work[at + 1:]:
        if any([number % work[at][at] for number in line[at + 1:]]):
            work[at] = [number + more for number, more in zip(work[at], line)]
            return False
    return True
