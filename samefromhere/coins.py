"""Wishes with throws: choices of answers for kinds of thrown nets, and what they are worth."""

from samefromhere.basics import (WordList, all_rows, first_labels, fraction, is_number, is_row, lots_of, numbers_of,
                                 power)
from samefromhere.errors import BadChoice
from samefromhere.kinds import refined
from samefromhere.madenets import beside, need_nets
from samefromhere.plans import Asked, answers_of, need_rounds
from samefromhere.throws import need_sides, thrown
from samefromhere.views import heard_roads
from samefromhere.wishes import Wish, need_answers


def _thrown_rows(nets, sides):
    """All thrown nets: the triples (index of the net, throw, kinds for ever of its places), net by net, throws
    ascending, kinds numbered as they come."""
    both = beside(nets)
    signs = numbers_of(both.sign_keys())
    heard = heard_roads(both)
    come = []
    first = []
    rows = []
    ahead = 0
    for index, net in enumerate(nets):
        for throw in all_rows(len(net), sides):
            moved = len(first) - ahead
            for place, number in enumerate(throw, ahead):
                first.append((signs[place], number))
                come.append([(into, out, sender + moved, road) for into, out, sender, road in heard[place]])
            rows.append((index, throw, len(first)))
        ahead += len(net)
    kinds = first_labels(refined(come, numbers_of(first))[-1])
    return [(index, throw, tuple(kinds[end - len(throw):end])) for index, throw, end in rows]


def _shares(nets, sides):
    """How much one throw of each net counts, and what it is measured by."""
    most = max([len(net) for net in nets])
    return [power(sides, most - len(net)) for net in nets], power(sides, most)


def _choice_numbers(nets, rows, words, thing):
    """The dict from kinds to the numbers of their answers by any object that is a coin choice of these words, None for
    what is none."""
    if not is_row(thing) or len(thing) != len(nets) or not all([isinstance(part, dict) for part in thing]):
        return None
    found = {}
    for index, throw, kinds in rows:
        if throw not in thing[index]:
            return None
        answers = thing[index][throw]
        if not is_row(answers) or len(answers) != len(kinds):
            return None
        for kind, answer in zip(kinds, answers):
            number = words.number_of(answer)
            if number is None or found.setdefault(kind, number) != number:
                return None
    keys = [key for part in thing for key in part]
    # There are all throws and no more; yet as a key a truth passes for a number, which it is not.
    return found if len(keys) == len(rows) and all([_are_numbers(key) for key in keys]) else None


def _are_numbers(throw):
    return all([is_number(number) for number in throw])


def is_coin_choice(nets, answers, sides, thing):
    kept = need_nets(nets)
    need_answers(answers)
    need_sides(sides)
    return _choice_numbers(kept, _thrown_rows(kept, sides), WordList(answers), thing) is not None


def worth_of(nets, answers, right, sides, choice):
    wish = Wish(nets, answers, right)
    need_sides(sides)
    rows = _thrown_rows(wish.nets, sides)
    picked = _choice_numbers(wish.nets, rows, wish, choice)
    if picked is None:
        raise BadChoice(choice)
    shares, bottom = _shares(wish.nets, sides)
    worths = [shares[index] for index, _, row in rows if wish.is_right(index, [picked[kind] for kind in row])]
    return fraction(sum(worths), bottom)


class BestChoice:
    """The best answers for kinds, found lot by lot: kinds that stand in one thrown net hang together."""

    def __init__(self, wish, sides):
        self.rows = _thrown_rows(wish.nets, sides)
        self._wish = wish
        shares, self.bottom = _shares(wish.nets, sides)
        # Throws of one net with the same kinds count together.
        counts = {}
        for index, _, row in self.rows:
            counts[index, row] = counts.get((index, row), 0) + shares[index]
        many = max([max(row) for _, _, row in self.rows]) + 1
        pairs = [(row[0], kind) for _, row in counts for kind in row]
        lots = lots_of(many, pairs)
        lot_of = {kind: at for at, lot in enumerate(lots) for kind in lot}
        weighed = [[] for _ in lots]
        for (index, row), worth in counts.items():
            weighed[lot_of[row[0]]].append((index, row, worth))
        self.worth = 0
        self.picked = {}
        for lot, rows in zip(lots, weighed):
            self._pick(lot, rows)

    def _pick(self, lot, rows):
        """Goes through the choices of a lot, kind by kind, but for those that cannot be better than the best."""
        behind = self._rows_by_last(lot, rows)
        rest = [0]
        for line in reversed(behind):
            rest.append(rest[-1] + sum([worth for _, _, worth in line]))
        best = -1
        numbers = [-1]
        worths = [0]
        picked = {}
        while numbers:
            numbers[-1] += 1
            at = len(numbers) - 1
            if numbers[at] == len(self._wish.words):
                numbers.pop()
                worths.pop()
                continue
            picked[lot[at]] = numbers[at]
            worth = worths[at] + self._worth(behind[at], picked)
            if worth + rest[len(lot) - at - 1] <= best:
                continue
            if at + 1 == len(lot):
                best = worth
                self.picked.update({kind: picked[kind] for kind in lot})
            else:
                numbers.append(-1)
                worths.append(worth)
        self.worth += best

    def _rows_by_last(self, lot, rows):
        """For each kind of a lot the rows that have it as their last one: then they have all their answers."""
        place = {kind: at for at, kind in enumerate(lot)}
        behind = [[] for _ in lot]
        for index, row, worth in rows:
            behind[max([place[kind] for kind in row])].append((index, row, worth))
        return behind

    def _worth(self, rows, picked):
        return sum([worth for index, row, worth in rows
                    if self._wish.is_right(index, [picked[kind] for kind in row])])


def best_worth(nets, answers, right, sides):
    wish = Wish(nets, answers, right)
    need_sides(sides)
    best = BestChoice(wish, sides)
    return fraction(best.worth, best.bottom)


def best_coins(nets, answers, right, sides):
    wish = Wish(nets, answers, right)
    need_sides(sides)
    best = BestChoice(wish, sides)
    choice = [{} for _ in wish.nets]
    for index, throw, row in best.rows:
        choice[index][throw] = tuple([wish.words[best.picked[kind]] for kind in row])
    return choice


def plan_worth(nets, answers, right, plan, rounds, sides):
    wish = Wish(nets, answers, right)
    asked = Asked(plan)
    need_rounds(rounds)
    need_sides(sides)
    shares, bottom = _shares(wish.nets, sides)
    found = 0
    for index, net in enumerate(wish.nets):
        for throw in all_rows(len(net), sides):
            numbers = [wish.number_of(answer) for answer in answers_of(asked, thrown(net, throw), rounds)]
            if None not in numbers and wish.is_right(index, numbers):
                found += shares[index]
    return fraction(found, bottom)
