"""Questions to count rows, which hands know or cannot know."""

from samefromhere.basics import is_row, read_word
from samefromhere.countrows import is_row_of_counts, need_base, net_of_row
from samefromhere.errors import BadCounts, IsSure, NoWord
from samefromhere.plans import Asked, answers_of, need_rounds


def _need_counts(base, rows):
    if not is_row(rows) or len(rows) == 0:
        raise BadCounts(0)
    for at, row in enumerate(rows):
        if not is_row_of_counts(base, row):
            raise BadCounts(at)


def _first_unlike(base, rows, question):
    """The two pairs (row, flat key of what the question tells of it) that are told otherwise first, None if all are
    told the same."""
    need_base(base)
    _need_counts(base, rows)
    found = []
    for row in [tuple(counts) for counts in rows]:
        thing = question(row)
        read = read_word(thing)
        if read is None:
            raise NoWord(thing)
        found.append((row, read[1]))
    for pair in found:
        if pair[1] != found[0][1]:
            return found[0], pair
    return None


def rows_apart(base, rows, question):
    pairs = _first_unlike(base, rows, question)
    if pairs is None:
        return None
    return pairs[0][0], pairs[1][0]


def break_count(base, rows, question, plan, rounds):
    pairs = _first_unlike(base, rows, question)
    asked = Asked(plan)
    need_rounds(rounds)
    if pairs is None:
        raise IsSure()
    for row, key in pairs:
        for place, answer in enumerate(answers_of(asked, net_of_row(base, row), rounds)):
            read = read_word(answer)
            if read is None or read[1] != key:
                return row, place
    return None
