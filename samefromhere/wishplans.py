"""Plans for wishes, and what is wrong with plans."""

from samefromhere.basics import read_word, word_key
from samefromhere.errors import CanBeDone
from samefromhere.kinds import rank_rows
from samefromhere.madenets import beside
from samefromhere.netlists import kind_numbers
from samefromhere.plans import Asked, answers_of, need_rounds
from samefromhere.wishes import Wish, first_of, need_rounds_or_ever

# The rank of a place whose view stands in none of the nets.
STRANGE = -1


def plan_for(nets, answers, right, rounds):
    wish = Wish(nets, answers, right)
    need_rounds_or_ever(rounds)
    choice = first_of(wish, rounds)
    if choice is None:
        return None
    both = beside(wish.nets)
    rows = rank_rows(both)
    if rounds is not None:
        rows = rows[:rounds + 1]
    kinds = [kind for row in kind_numbers(wish.nets, rows[-1]) for kind in row]
    answer = {rank: choice[kind] for rank, kind in zip(rows[-1], kinds)}
    begun = {key: rank for key, rank in zip(both.sign_keys(), rows[0])}
    steps = [_step(both, row, later) for row, later in zip(rows, rows[1:])]
    return rank_plan(begun, steps, answer, choice[0])


def _step(net, row, later):
    """The dict from what a place hears in a round, and its rank ahead of it, to its rank behind it."""
    heard = [[] for _ in row]
    for one, other, out, into in net.road_keys():
        heard[other].append((into, out, row[one]))
    return {(rank, tuple(sorted(heard[place]))): later[place] for place, rank in enumerate(row)}


def rank_plan(begun, steps, answer, other_answer):
    """A plan whose states are pairs (round, rank): views are told apart by ranks, which do not grow. Behind the last
    step nothing changes any more."""

    def begin(sign):
        return 0, begun.get(word_key(sign), STRANGE)

    def say(state, out):
        return out, state[1]

    def hear(state, heard):
        done, rank = state
        if done == len(steps):
            return state
        triples = [(word_key(into), word_key(letter[0]), letter[1]) for into, letter in heard]
        return done + 1, steps[done].get((rank, tuple(sorted(triples))), STRANGE)

    def tell(state):
        done, rank = state
        return answer.get(rank, other_answer) if done == len(steps) else other_answer

    return begin, say, hear, tell


def _first_fault(wish, asked, rounds):
    for index, net in enumerate(wish.nets):
        answers = answers_of(asked, net, rounds)
        numbers = [wish.number_of(answer) for answer in answers]
        if None in numbers:
            return index, _as_words(answers), "odd"
        if not wish.is_right(index, numbers):
            return index, _as_words(answers), "wrong"
    return None


def _as_words(answers):
    """The tuple of what was told, words as tuples, all else as it is."""
    found = []
    for answer in answers:
        read = read_word(answer)
        found.append(answer if read is None else read[0])
    return tuple(found)


def wish_fault(nets, answers, right, plan, rounds):
    wish = Wish(nets, answers, right)
    asked = Asked(plan)
    need_rounds(rounds)
    return _first_fault(wish, asked, rounds)


def break_wish(nets, answers, right, plan, rounds):
    wish = Wish(nets, answers, right)
    asked = Asked(plan)
    need_rounds(rounds)
    if first_of(wish, rounds) is not None:
        raise CanBeDone()
    return _first_fault(wish, asked, rounds)
