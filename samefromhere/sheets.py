"""Sheets: rows that say what holds at a place."""

from samefromhere.alike import alike_for, joint_rows
from samefromhere.basics import is_integer, is_row, is_word, read_word
from samefromhere.errors import BadSheet
from samefromhere.madenets import beside
from samefromhere.nets import is_place_of, need_place


def _sheet_fault(thing):
    if not is_row(thing) or len(thing) == 0:
        return 0
    for at, row in enumerate(thing):
        if not _is_sheet_row(row, at):
            return at
    return None


def _is_sheet_row(row, at):
    """Whether it is a row of a sheet with so many rows ahead of it."""
    if not is_row(row) or len(row) == 0 or not isinstance(row[0], str):
        return False
    if row[0] == "sign":
        return len(row) == 2 and is_word(row[1])
    if row[0] == "in":
        return len(row) == 5 and is_word(row[1]) and is_word(row[2]) and _is_amount(row[3]) and is_place_of(at, row[4])
    if row[0] == "not":
        return len(row) == 2 and is_place_of(at, row[1])
    return row[0] == "all" and all([is_place_of(at, earlier) for earlier in row[1:]])


def _is_amount(thing):
    return is_integer(thing) and thing >= 1


def need_sheet(thing):
    fault = _sheet_fault(thing)
    if fault is not None:
        raise BadSheet(fault)


def is_sheet(thing):
    return _sheet_fault(thing) is None


def sheet_rounds(sheet):
    need_sheet(sheet)
    rounds = []
    for row in sheet:
        if row[0] == "sign":
            rounds.append(0)
        elif row[0] == "in":
            rounds.append(rounds[row[4]] + 1)
        else:
            rounds.append(max([rounds[earlier] for earlier in row[1:]], default=0))
    return rounds[-1]


def holds(net, place, sheet):
    need_place(net, place)
    need_sheet(sheet)
    found = []
    for row in sheet:
        found.append(_row_holds(net, row, found))
    return found[-1][place]


def _row_holds(net, row, found):
    """Place by place whether the row holds, found telling it of the rows ahead."""
    places = range(len(net))
    if row[0] == "sign":
        _, key = read_word(row[1])
        return [key == sign for sign in net.sign_keys()]
    if row[0] == "in":
        return _many_come(net, row, found[row[4]])
    if row[0] == "not":
        return [not held for held in found[row[1]]]
    return [all([found[earlier][place] for earlier in row[1:]]) for place in places]


def _many_come(net, row, held):
    _, into_key = read_word(row[1])
    _, out_key = read_word(row[2])
    many = [0] * len(net)
    for one, other, out, into in net.road_keys():
        if held[one] and into == into_key and out == out_key:
            many[other] += 1
    return [number >= row[3] for number in many]


def parting_sheet(one, place, other, far):
    if alike_for(one, place, other, far) is None:
        return None
    writer = SheetWriter(one, other)
    writer.part(place, len(one) + far)
    return writer.sheet()


class SheetWriter:
    """Writes rows that part places of two nets side by side; each row once, behind those that it speaks of."""

    def __init__(self, one, other):
        self._both = beside([one, other])
        self._ranks = [near + away for near, away in joint_rows(one, other)]
        self._roads = [[] for _ in self._ranks[0]]
        for (sender, place, out, into), keys in zip(self._both.roads(), self._both.road_keys()):
            self._roads[place].append((keys[3], keys[2], sender, into, out))
        self._rows = []
        self._parted = {}
        self._alone = {}

    def sheet(self):
        return list(self._rows)

    def _add(self, row):
        self._rows.append(row)
        return len(self._rows) - 1

    def part(self, one, other):
        """The index of a row, of as few rounds as can be, that holds at one, and so at all that are alike to it
        for so many rounds, but not at other."""
        rounds = 0
        while self._ranks[rounds][one] == self._ranks[rounds][other]:
            rounds += 1
        key = (rounds, self._ranks[rounds][one], self._ranks[rounds][other])
        if key not in self._parted:
            if rounds == 0:
                self._parted[key] = self._add(("sign", self._both.signs()[one]))
            else:
                self._parted[key] = self._part_by_roads(one, other, rounds - 1)
        return self._parted[key]

    def _part_by_roads(self, one, other, rounds):
        """A road tells them apart: more of its marks and of its sender's kind come to one than to other, or fewer."""
        for into_key, out_key, sender, into, out in self._roads[one] + self._roads[other]:
            lot = (into_key, out_key, self._ranks[rounds][sender])
            many = self._many(one, lot, rounds)
            less = self._many(other, lot, rounds)
            if many > less:
                return self._add(("in", into, out, many, self._only(sender, rounds)))
            if many < less:
                return self._add(("not", self._add(("in", into, out, less, self._only(sender, rounds)))))
        return None

    def _many(self, place, lot, rounds):
        row = self._ranks[rounds]
        return len([into for into, out, sender, _, _ in self._roads[place] if (into, out, row[sender]) == lot])

    def _only(self, place, rounds):
        """The index of a row that holds just at the places alike to this one for so many rounds."""
        row = self._ranks[rounds]
        key = (rounds, row[place])
        if key not in self._alone:
            others = {rank: at for at, rank in enumerate(row) if rank != row[place]}
            parts = [self.part(place, others[rank]) for rank in sorted(others)]
            self._alone[key] = parts[0] if len(parts) == 1 else self._add(("all", *parts))
        return self._alone[key]
