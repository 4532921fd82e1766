"""Houses as texts."""

from samefromhere.basics import END_MARK, STRING_MARK, TUPLE_MARK, power, word_key
from samefromhere.errors import BadText
from samefromhere.housedeeds import is_name
from samefromhere.housequestions import read_question
from samefromhere.houses import house_of
from samefromhere.nets import Net, is_place_of

DIGITS = "0123456789"
# Longer integers are read part by part, as Python does not read them whole.
DIGITS_AT_ONCE = 1000


def write_house(house):
    lines = []
    for name, net in house.nets_kept().items():
        lines.append("net " + name)
        lines.extend(["place " + _written(sign) for sign in net.signs()])
        lines.extend(["road " + " ".join([_written(part) for part in road]) for road in net.roads()])
    for question, _, is_held in house.watched():
        lines.append(("hold " if is_held else "watch ") + _written(question))
    return "".join([line + "\n" for line in lines])


def _written(word):
    key = word_key(word)
    parts = []
    at = 0
    while at < len(key):
        mark = key[at]
        if mark == END_MARK:
            parts.append(")")
        else:
            if parts and parts[-1] != "(":
                parts.append(",")
            if mark == TUPLE_MARK:
                parts.append("(")
            else:
                at += 1
                parts.append(_quoted(key[at]) if mark == STRING_MARK else str(key[at]))
        at += 1
    return "".join(parts)


def _quoted(text):
    return '"' + text.replace("\\", "\\\\").replace('"', '\\"') + '"'


class Scanner:
    """Reads what is written on a line, part by part."""

    def __init__(self, line, at):
        self._line = line
        self._at = at

    def takes(self, sign):
        """Whether this sign stands next, which is passed then."""
        if self._line[self._at:self._at + 1] != sign:
            return False
        self._at += 1
        return True

    def is_done(self):
        return self._at == len(self._line)

    def next_word(self):
        """The word that stands next, None if there is none."""
        around = []
        while True:
            word = self._simple()
            if word is None:
                if not self.takes("("):
                    return None
                around.append([])
                if not self.takes(")"):
                    continue
                word = tuple(around.pop())
            while around:
                around[-1].append(word)
                if self.takes(","):
                    break
                if not self.takes(")"):
                    return None
                word = tuple(around.pop())
            else:
                return word

    def _simple(self):
        """The integer or string that stands next, None if there is none."""
        return self._string() if self.takes('"') else self._integer()

    def _string(self):
        found = []
        while not self.takes('"'):
            escaped = self.takes("\\")
            sign = self._line[self._at:self._at + 1]
            if sign == "" or escaped and sign not in '\\"':
                self._at = len(self._line)
                return None
            found.append(sign)
            self._at += 1
        return "".join(found)

    def _integer(self):
        begin = self._at
        is_below = self.takes("-")
        at = self._at
        while self._at < len(self._line) and self._line[self._at] in DIGITS:
            self._at += 1
        digits = self._line[at:self._at]
        if digits == "" or digits[0] == "0" and (is_below or len(digits) > 1):
            self._at = begin
            return None
        number = 0
        for start in range(0, len(digits), DIGITS_AT_ONCE):
            part = digits[start:start + DIGITS_AT_ONCE]
            number = number * power(10, len(part)) + int(part)
        return -number if is_below else number


class TextReader:
    """Takes the lines of a text one by one."""

    def __init__(self):
        self._nets = {}
        self._name = None
        self._signs = []
        self._roads = []
        self._road_keys = []
        self._questions = []
        self._question_keys = []

    def takes(self, line):
        """Whether some text of a house goes on with this line."""
        name, _, rest = line.partition(" ")
        scanner = Scanner(line, len(name) + 1)
        if name == "net":
            return self._takes_net(rest)
        if name == "place":
            return self._takes_place(scanner)
        if name == "road":
            return self._takes_road(scanner)
        return name in ("watch", "hold") and self._takes_question(scanner, name == "hold")

    def lacks_place(self):
        return self._name is not None and not self._signs

    def _takes_net(self, name):
        if self._questions or self.lacks_place() or not is_name(name):
            return False
        if self._name is not None and name <= self._name:
            return False
        self._end_net()
        self._name = name
        self._signs = []
        self._roads = []
        self._road_keys = []
        return True

    def _end_net(self):
        if self._name is not None:
            self._nets[self._name] = Net(self._signs, self._roads)

    def _takes_place(self, scanner):
        sign = scanner.next_word()
        if self._name is None or self._roads or self._questions or sign is None or not scanner.is_done():
            return False
        self._signs.append(sign)
        return True

    def _takes_road(self, scanner):
        road = [scanner.next_word()]
        while len(road) < 4 and scanner.takes(" "):
            road.append(scanner.next_word())
        if self._questions or len(road) < 4 or None in road or not scanner.is_done():
            return False
        if not is_place_of(len(self._signs), road[0]) or not is_place_of(len(self._signs), road[1]):
            return False
        key = word_key(road)
        if self._road_keys and key < self._road_keys[-1]:
            return False
        self._roads.append(road)
        self._road_keys.append(key)
        return True

    def _takes_question(self, scanner, is_held):
        word = scanner.next_word()
        if word is None or not scanner.is_done() or self.lacks_place():
            return False
        if not self._questions:
            self._end_net()
        question = read_question(self._nets, word)
        key = word_key(word)
        if question is None or key in self._question_keys:
            return False
        self._questions.append((question, is_held))
        self._question_keys.append(key)
        return True

    def house(self):
        if not self._questions:
            self._end_net()
        return house_of(self._nets, self._questions)


def read_house(text):
    if not isinstance(text, str):
        raise BadText(0)
    lines = text.split("\n")
    reader = TextReader()
    for at, line in enumerate(lines[:-1]):
        if not reader.takes(line):
            raise BadText(at + 1)
    if lines[-1] != "" or reader.lacks_place():
        raise BadText(len(lines))
    return reader.house()
