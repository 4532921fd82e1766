"""Event plans in all orders of events, and plans by rounds made fit for any order."""

from samefromhere.basics import is_same, read_word, word_key
from samefromhere.errors import NoWord
from samefromhere.eventruns import EventPlan, events_of
from samefromhere.plans import need_functions, need_rounds


def _quiet_stands(events, in_turn):
    """The pairs (states, picks that lead there) of all quiet stands."""
    came = {_stand_key(events.first, in_turn): None}
    todo = [events.first]
    found = []
    while todo:
        stand = todo.pop()
        key = _stand_key(stand, in_turn)
        possible = events.possible(stand)
        if not possible:
            found.append((stand[0], _picks_to(came, key)))
        for pick, event in enumerate(possible):
            if not _is_like_one_ahead(stand, event):
                later = events.behind(stand, event)
                later_key = _stand_key(later, in_turn)
                if later_key not in came:
                    came[later_key] = (key, pick)
                    todo.append(later)
    return found


def _stand_key(stand, in_turn):
    """Where any letter may be taken it is all one in which order they wait."""
    states, waiting = stand
    if in_turn:
        return stand
    return states, tuple([tuple(sorted(letters)) for letters in waiting])


def _is_like_one_ahead(stand, event):
    """Whether the event takes a letter that waits on the road ahead of this one, too."""
    road, at = event
    return road >= 0 and stand[1][road][at] in stand[1][road][:at]


def _picks_to(came, key):
    picks = []
    while came[key] is not None:
        key, pick = came[key]
        picks.append(pick)
    return tuple(picks[::-1])


def _quiet_ends(net, plan, in_turn):
    """The event plan, and the pairs (states, picks that lead there) of all quiet stands."""
    asked = EventPlan(plan)
    return asked, _quiet_stands(events_of(net, asked, in_turn), in_turn)


def order_fault(net, plan, in_turn):
    asked, ends = _quiet_ends(net, plan, in_turn)
    # Tell is to be asked at each quiet stand, also behind the first that is unlike.
    for states, _ in ends:
        for state in states:
            asked.tell(state)
    first, picks = ends[0]
    same = {}
    for states, other_picks in ends[1:]:
        for pair in zip(first, states):
            if pair not in same:
                same[pair] = pair[0] == pair[1] or is_same(asked.tell(pair[0]), asked.tell(pair[1]))
            if not same[pair]:
                return picks, other_picks
    return None


def quiet_answers(net, plan, in_turn):
    asked, ends = _quiet_ends(net, plan, in_turn)
    rows = [tuple([asked.tell_word(state) for state in states]) for states, _ in ends]
    keys = {tuple([asked.key(answer) for answer in answers]): answers for answers in rows}
    return [tuple([asked.word(answer) for answer in keys[key]]) for key in sorted(keys)]


def _word(thing):
    read = read_word(thing)
    if read is None:
        raise NoWord(thing)
    return read[0]


def in_any_order(plan, rounds):
    """States are (rounds done, state by the plan, how many letters come in a round, pairs (round, state) of which the
    letters are still to be put, triples (round, into, letter) of letters that came and are not heard yet)."""
    need_functions(plan, 4)
    need_rounds(rounds)
    plan_begin, plan_say, plan_hear, plan_tell = plan

    def go_on(done, state, come, came):
        """The state behind all rounds of which all letters are there."""
        fresh = []
        now = [item for item in came if item[0] == done + 1]
        while done < rounds and len(now) == come:
            heard = sorted([item[1:] for item in now], key=_pair_key)
            state = _word(plan_hear(state, tuple(heard)))
            came = [item for item in came if item[0] != done + 1]
            done += 1
            fresh.append((done, state))
            now = [item for item in came if item[0] == done + 1]
        return done, state, come, fresh, came

    def begin(sign):
        first, come, _ = sign
        state = _word(plan_begin(first))
        done, behind, come, fresh, came = go_on(0, state, come, [])
        return done, behind, come, [(0, state)] + fresh, came

    def put(state, out):
        return [(done + 1, _word(plan_say(said, out))) for done, said in state[3] if done < rounds]

    def take(state, into, letter):
        done, now, come, _, came = state
        return go_on(done, now, come, list(came) + [(letter[0], into, letter[1])])

    def tell(state):
        return plan_tell(state[1])

    return begin, put, take, tell


def _pair_key(pair):
    return word_key(pair[0]), word_key(pair[1])
