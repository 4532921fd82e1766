"""Courses: the nets of a row in any order."""

from itertools import permutations

from samefromhere.basics import first_fault, first_labels, grouped, is_row, numbers_of
from samefromhere.errors import BadCourse
from samefromhere.kinds import next_ranks
from samefromhere.netrows import need_net_row
from samefromhere.nets import is_place_of, need_place
from samefromhere.rowkinds import row_kinds_for_ever
from samefromhere.views import heard_roads


class Lines:
    """Which places are alike behind courses: lines of labels, equal ones for alike places, numbered as they come."""

    def __init__(self, row):
        self.first = tuple(first_labels(numbers_of(row[0].sign_keys())))
        self.indexes = list(range(len(row)))
        self._heard = [heard_roads(net) for net in row]
        self._later = {}

    def later(self, line, index):
        """The line behind one round more, by the net with this index."""
        if (line, index) not in self._later:
            self._later[line, index] = tuple(first_labels(next_ranks(self._heard[index], line)))
        return self._later[line, index]

    def behind(self, line, course):
        for index in course:
            line = self.later(line, index)
        return line

    def behind_for_ever(self, line, ring):
        """The line that stays when a course is gone through again and again."""
        later = self.behind(line, ring)
        while later != line:
            line = later
            later = self.behind(line, ring)
        return line


def _course_fault(row, thing):
    many = len(row)
    return first_fault(thing, lambda index: is_place_of(many, index))


def course_kinds(row, course):
    kept = need_net_row(row)
    fault = _course_fault(kept, course)
    if fault is not None:
        raise BadCourse(fault)
    lines = Lines(kept)
    return grouped(lines.behind(lines.first, course))


def _first_course(lines, is_end):
    """The first shortest course behind which the line is an end, None if there is none. Lines only part more and
    more; so of all courses to one line the first one will do."""
    courses = {lines.first: []}
    row = [lines.first]
    while row:
        grown = []
        for line in row:
            if is_end(line):
                return courses[line]
            for index in lines.indexes:
                later = lines.later(line, index)
                if later not in courses:
                    courses[later] = courses[line] + [index]
                    grown.append(later)
        row = grown
    return None


def _lines_of_pair(row, one, other):
    kept = need_net_row(row)
    need_place(kept[0], one)
    need_place(kept[0], other)
    return Lines(kept)


def parting_course(row, one, other):
    return _first_course(_lines_of_pair(row, one, other), lambda line: line[one] != line[other])


def finest_course(row):
    finest = row_kinds_for_ever(row)
    return _first_course(Lines(list(row)), lambda line: grouped(line) == finest)


def orders_parting(row, one, other):
    lines = _lines_of_pair(row, one, other)
    found = []
    for course in permutations(lines.indexes):
        line = lines.behind(lines.first, course)
        if line[one] != line[other]:
            found.append(list(course))
    return found


def must_part(row, one, other):
    lines = _lines_of_pair(row, one, other)
    if _keeper(lines, one, other) is not None:
        return None
    rounds = 0
    alike = _alike(one, other, [lines.first])
    while alike:
        alike = _alike(one, other, [lines.later(line, index) for line in alike for index in lines.indexes])
        rounds += 1
    return rounds


def _alike(one, other, row):
    """The unlike lines of a row in which both places are alike."""
    return list({line: True for line in row if line[one] == line[other]})


def keeping(row, one, other):
    index = _keeper(_lines_of_pair(row, one, other), one, other)
    return None if index is None else ([], [index])


def _keeper(lines, one, other):
    """The index of the first net that keeps both places alike for ever, by itself, None if there is none. Lines cannot
    part for ever: so each way to go on keeping two places alike comes to where some net parts nothing more; that net
    by itself, from the signs on, parts no more than this."""
    for index in lines.indexes:
        line = lines.behind_for_ever(lines.first, [index])
        if line[one] == line[other]:
            return index
    return None


def is_keeping(row, one, other, thing):
    lines = _lines_of_pair(row, one, other)
    if not is_row(thing) or len(thing) != 2:
        return False
    course, ring = thing
    if _course_fault(lines.indexes, course) is not None or _course_fault(lines.indexes, ring) is not None:
        return False
    if len(ring) == 0:
        return False
    line = lines.behind_for_ever(lines.behind(lines.first, course), ring)
    return line[one] == line[other]
