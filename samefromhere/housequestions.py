"""Questions to the nets of a house, and what is answered."""

from samefromhere.alike import alike_for
from samefromhere.basics import is_row, read_word
from samefromhere.countrows import is_base, row_over
from samefromhere.joinedpieces import cut_out, places_fault
from samefromhere.kinds import kinds_for_ever, rounds_needed
from samefromhere.leastnets import least_net
from samefromhere.leastpieces import least_piece
from samefromhere.nets import is_place_of
from samefromhere.wishes import rounds_for
from samefromhere.written import read_written, written

# What stands behind the first part of a question; a net, a place of the net ahead, a list of its places, a list of nets
# and what these take as a written wish.
QUESTION_FORMS = {
    "kinds": ("net",),
    "rounds": ("net",),
    "alike": ("net", "place", "net", "place"),
    "least": ("net", "net"),
    "wish": ("nets", "wish"),
    "counts": ("net", "net"),
    "pieces": ("net", "places", "net", "places"),
}
MOST_NETS = 3


def read_question(nets, thing):
    """The question that any object is on the nets, a dict by names, tuples throughout; None if it is none."""
    read = read_word(thing)
    if read is None or not is_row(read[0]) or len(read[0]) == 0 or not isinstance(read[0][0], str):
        return None
    question = read[0]
    form = QUESTION_FORMS.get(question[0])
    if form is None or len(question) != len(form) + 1:
        return None
    for at, kind in enumerate(form):
        if not _fits(nets, kind, question[at], question[at + 1]):
            return None
    return question


def _fits(nets, kind, ahead, part):
    """Whether a part, with the one ahead of it, is what is asked there."""
    if kind == "net":
        return isinstance(part, str) and part in nets
    if kind == "place":
        return is_place_of(len(nets[ahead]), part)
    if kind == "places":
        return places_fault(nets[ahead], part) is None
    if kind == "nets":
        if not is_row(part) or len(part) == 0 or len(part) > MOST_NETS:
            return False
        return all([isinstance(name, str) and name in nets for name in part])
    return read_written(part, len(ahead)) is not None


def names_in(question):
    """The names of the nets of which a question speaks."""
    names = []
    for kind, part in zip(QUESTION_FORMS[question[0]], question[1:]):
        if kind == "net":
            names.append(part)
        elif kind == "nets":
            names.extend(part)
    return names


def answer_to(nets, question):
    """What is answered, tuples throughout."""
    kind = question[0]
    if kind == "wish":
        chosen = [nets[name] for name in question[1]]
        answers, right = written(chosen, question[2])
        return rounds_for(chosen, answers, right)
    net = nets[question[1]]
    if kind == "kinds":
        return tuple([tuple(lot) for lot in kinds_for_ever(net)])
    if kind == "rounds":
        return rounds_needed(net)
    if kind == "alike":
        return alike_for(net, question[2], nets[question[3]], question[4])
    if kind == "least":
        return least_net(net) == least_net(nets[question[2]])
    if kind == "counts":
        base = nets[question[2]]
        return row_over(net, base) if is_base(base) else None
    return _are_alike(cut_out(net, question[2])[1], cut_out(nets[question[3]], question[4])[1])


def _are_alike(one, other):
    """Whether pieces are alike, None if they have not as many gates."""
    if len(one.in_keys()) != len(other.in_keys()) or len(one.out_keys()) != len(other.out_keys()):
        return None
    return least_piece(one) == least_piece(other)
