"""Guesses: what a hand takes its net for, right from some round on."""

from samefromhere.errors import BadView, NotStrong
from samefromhere.leastnets import least_net
from samefromhere.nets import Net
from samefromhere.shapes import is_strong
from samefromhere.views import ViewBook


def guess(seen):
    book = ViewBook()
    number = book.read(seen)
    if number is None:
        raise BadView(seen)
    return _guess_of(book, number)


def _guess_of(book, seen):
    rounds = book.rounds(seen)
    if rounds == 0:
        return None
    half = rounds // 2
    heard = {}
    row = [seen]
    for _ in range(rounds - half):
        for inner in row:
            place = book.cut(inner, half)
            longer = book.cut(inner, half + 1)
            if heard.setdefault(place, longer) != longer:
                return None
        row = sorted(set([child for inner in row for _, _, child in book.row(inner)[2]]))
    return _net_of(book, heard, half)


def _net_of(book, heard, half):
    """The least net of the views that hear as those of one round more tell, None if a sender is none of them."""
    number = {view: place for place, view in enumerate(heard)}
    roads = []
    for place, longer in enumerate(heard.values()):
        for into, out, child in book.row(longer)[2]:
            sender = book.cut(child, half)
            if sender not in number:
                return None
            roads.append((number[sender], place, book.word(out), book.word(into)))
    return least_net(Net([book.word(book.row(view)[1]) for view in heard], roads))


def settled_after(net):
    if not is_strong(net):
        raise NotStrong(net)
    book = ViewBook()
    least = least_net(net)
    # From twice as many rounds as there are places, less one, on all guesses are right; of 0 rounds none is.
    lines = book.along(net, 2 * len(net) - 2)
    for rounds in reversed(range(1, len(lines))):
        if not all([_guess_of(book, seen) == least for seen in sorted(set(lines[rounds]))]):
            return rounds + 1
    return 1
