"""One way round for all places of a ring, colours of its neighbours, and how many rings there are."""

from samefromhere.basics import power, word_key
from samefromhere.ringaxes import axes_of
from samefromhere.ringkinds import period_of
from samefromhere.rings import need_pattern
from samefromhere.turns import need_size


def ring_sense(signs, senses):
    if axes_of(need_pattern(signs, senses)):
        return None
    return list(senses)


def barred_by(signs, senses):
    """Places a whole number of periods apart have one sense; so only axes tell of unlike ways."""
    pattern = need_pattern(signs, senses)
    many = len(pattern)
    axes = axes_of(pattern)
    for one in range(many):
        for other in range(one + 1, many):
            if (one + other) % many in axes:
                return one, other
    return None


def least_colours(signs, senses):
    pattern = need_pattern(signs, senses)
    period = period_of(pattern)
    if period == 1 or axes_of(pattern):
        return None
    return 2 if period % 2 == 0 else 3


def sense_plan(number):
    need_size(number)

    def begin(sign):
        return sign, (), ()

    def say(state, out):
        # What goes out by a door goes on what came by the other one, led by what this place shows who comes so.
        sign, by_zero, by_one = state
        if out == 0:
            return ((sign, 1),) + by_one[:number - 1]
        if out == 1:
            return ((sign, 0),) + by_zero[:number - 1]
        return ()

    def hear(state, heard):
        return state[0], _letter_by(heard, 0), _letter_by(heard, 1)

    def tell(state):
        sign, by_zero, by_one = state
        from_zero = _least_turned(((sign, 0),) + by_zero[:number - 1])
        from_one = _least_turned(((sign, 1),) + by_one[:number - 1])
        return 0 if from_zero <= from_one else 1

    return begin, say, hear, tell


def _letter_by(heard, door):
    """The first letter that came by a door, () if none did."""
    for into, letter in heard:
        if into == door:
            return letter
    return ()


def _least_turned(row):
    """The flat keys of a row, read round from where they are least."""
    keys = [word_key(pair) for pair in row]
    return min([keys[at:] + keys[:at] for at in range(len(keys))])


def count_barred(number, many):
    need_size(number)
    need_size(many)
    return sum([_barred_anew(part, many) for part in _divisors(number)])


def count_heads(number, many):
    need_size(number)
    need_size(many)
    rows = [_square_free(number // part) * power(2 * many, part) for part in _divisors(number)]
    return sum(rows) - _barred_anew(number, many)


def _barred_anew(number, many):
    """How many patterns of so many places have an axis and no period but this: none, if the number is odd."""
    rows = [_square_free(number // part) * power(2 * many, part // 2) for part in _divisors(number) if part % 2 == 0]
    return sum(rows) * (number // 2)


def _divisors(number):
    return [part for part in range(1, number + 1) if number % part == 0]


def _square_free(number):
    """0 if a square above 1 divides the number, else 1 or -1, as it has an even number of prime parts or an odd one."""
    found = 1
    part = 2
    while number > 1:
        if number % part == 0:
            number = number // part
            found = -found
            if number % part == 0:
                return 0
        part += 1
    return found
