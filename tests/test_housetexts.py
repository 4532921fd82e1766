"""Point 143: houses as texts."""

import random
import time
import unittest

from samefromhere.errors import BadText
from samefromhere.houses import House
from samefromhere.housetexts import read_house, write_house
from tests.helpers import ANY_OBJECTS, faults
from tests.test_houses import QUESTIONS, house_with, random_deed, sample_house, shown

WORDS = ["", "a b", '"', "\\", '\\"', 'a\\\\"b', "~ !%{}(),", -5, 0, 10 ** 9 - 1, -10 ** 8, (), ((),), (1,), ("x",), (-1, ("", ()), "y"),
         ((), (), 0), ('"(",', (')"',)), "0", "-1", "net r"]

TEXT = """net bb
place "a"
place -3
place ("x",(),0)
road 0 0 "" ""
road 0 1 -1 ("\\\\","\\"")
road 0 1 -1 ("\\\\","\\"")
road 1 0 2 ""
net c
place "a"
net r
place "a b"
place "a b"
road 0 1 "" ""
watch ("rounds","bb")
hold ("alike","r",0,"r",1)
watch ("wish",("c","r"),("true",(1,"x")))
"""


def strange_house():
    """All kinds of words in signs, marks and questions."""
    signs = WORDS + WORDS[:3]
    roads = [(at % 4, (at * 3) % len(signs), word, WORDS[-at]) for at, word in enumerate(WORDS)] * 2
    return house_with(("net", "zz", ["s"], []), ("net", "abcdefgh", signs, roads), ("net", "m", ["t"], [(0, 0, "", "")]),
                      ("watch", ("wish", ("m",), ("steps", ('"', -4, ())))), ("hold", ("wish", ("zz", "m"), ("true", WORDS[5:7]))),
                      ("watch", ("pieces", "abcdefgh", (), "zz", (0,))))


def houses():
    found = [House(), sample_house(), strange_house(), house_with(("net", "n", [0], []))]
    for seed in range(15):
        pick = random.Random(seed)
        house = sample_house()
        for row in house.watched():
            house.do(("leave", row[0]))
        for _ in range(12):
            deed = random_deed(pick, house.nets_kept())
            if deed is not None:
                house.do(deed)
        for question in pick.sample(QUESTIONS, 8):
            if house.is_question(question):
                house.do((pick.choice(["watch", "hold"]), question))
        found.append(house)
    return found


def text_of(word):
    """A word as point 143 tells it."""
    if isinstance(word, tuple):
        return "(" + ",".join(map(text_of, word)) + ")"
    if isinstance(word, str):
        return '"' + "".join("\\" + sign if sign in '"\\' else sign for sign in word) + '"'
    return str(word)


def slow_text(house):
    lines = []
    for name, net in sorted(house.nets_kept().items()):
        lines.append(f"net {name}")
        lines += [f"place {text_of(sign)}" for sign in net.signs()]
        lines += [f"road {one} {other} {text_of(out)} {text_of(into)}" for one, other, out, into in net.roads()]
    lines += [("hold " if held else "watch ") + text_of(question) for question, _, held in house.watched()]
    return "".join(line + "\n" for line in lines)


class TestWritten(unittest.TestCase):
    def test_texts(self):
        for house in houses():
            text = write_house(house=house)
            self.assertEqual(text, slow_text(house))
            read = read_house(text=text)
            self.assertTrue(read == house)
            self.assertIs(type(read), House)
            self.assertEqual(shown(read)[:2], shown(house)[:2])
            self.assertEqual(list(read.nets_kept()), list(house.nets_kept()))
            self.assertEqual([read.count(), read.deeds(), read.undo(), read.again()], [0, [], None, None])
            self.assertEqual(write_house(read), text)

    def test_a_house_that_was_read_goes_on(self):
        house = read_house(TEXT)
        self.assertEqual(house.watched(), [(("rounds", "bb"), 0, False), (("alike", "r", 0, "r", 1), 0, True),
                                           (("wish", ("c", "r"), ("true", (1, "x"))), 0, False)])
        house.do(("net", "z", ["x"], []))
        self.assertEqual(house.count(), 1)
        self.assertTrue(house.at(0) == read_house(TEXT))
        self.assertEqual(house.undo(), ("net", "z", ("x",), ()))
        self.assertEqual(write_house(house), TEXT)

    def test_words(self):
        for word in WORDS:
            house = house_with(("net", "n", [word], [(0, 0, word, word)]))
            text = f"net n\nplace {text_of(word)}\nroad 0 0 {text_of(word)} {text_of(word)}\n"
            self.assertEqual(write_house(house), text)
            self.assertTrue(read_house(text) == house)
        deep = ()
        for _ in range(190):
            deep = (deep,)
        house = house_with(("net", "n", [deep], []))
        self.assertTrue(read_house(write_house(house)) == house)

    def test_edges(self):
        self.assertEqual(write_house(House()), "")
        self.assertTrue(read_house("") == House())


class TestBadText(unittest.TestCase):
    def check(self, text, line):
        faults(read_house, BadText, "line", [(text, line)])

    def test_no_string(self):
        faults(read_house, BadText, "line", [(thing, 0) for thing in ANY_OBJECTS if not isinstance(thing, str)])

    def test_any_change_of_a_line(self):
        """A line feed less or more, a blank less or more, a sign less or more."""
        lines = TEXT.split("\n")[:-1]
        for at, line in enumerate(lines):
            ahead = "".join(row + "\n" for row in lines[:at])
            behind = "".join(row + "\n" for row in lines[at + 1:])
            for wrong in (line + " ", " " + line, line.replace(" ", "  ", 1), line.replace(" ", "", 1), line + ",", line[:-1] + "?",
                          line + "\r", "\t" + line, line.upper(), line + "()", line + "0x", ""):
                self.check(ahead + wrong + "\n" + behind, at + 1)
            self.check(ahead + line[:-1], at + 1)
            self.check(ahead + line, at + 1)
            self.check(ahead + line + "\n" + "\n" + behind, at + 2)
            self.check(ahead + line + behind, at + 1)

    def test_cut_short(self):
        """Each beginning of a text is one of a house, or tells where it is not."""
        lines = TEXT.split("\n")[:-1]
        for many in range(len(lines) + 1):
            text = "".join(line + "\n" for line in lines[:many])
            if many and lines[many - 1].startswith("net"):
                self.check(text, many + 1)
            else:
                self.assertEqual(write_house(read_house(text)), text)
        self.check("net a", 1)
        self.check("net a\n", 2)
        self.check("n", 1)
        self.check("\n", 1)
        self.check(" ", 1)

    def test_nets(self):
        for name in ("", "abcdefghi", "A", "a1", "a b", '"a"', "\xe4", "a "):
            self.check(f"net {name}\nplace 0\n", 1)
        self.check("net a\nnet b\nplace 0\n", 2)
        self.check("net b\nplace 0\nnet a\nplace 0\n", 3)
        self.check("net b\nplace 0\nnet b\nplace 0\n", 3)
        self.check("net ab\nplace 0\nnet a\nplace 0\n", 3)
        self.check("place 0\n", 1)
        self.check('road 0 0 "" ""\n', 1)
        self.check('net a\nroad 0 0 "" ""\n', 2)
        self.check('net a\nwatch ("kinds","a")\n', 2)
        self.assertEqual(len(read_house("net a\nplace 0\nnet ab\nplace 0\nnet b\nplace 0\n").nets_kept()), 3)

    def test_places_and_roads(self):
        begin = "net a\nplace 0\nplace 1\n"
        for road in ('0 2 "" ""', '2 0 "" ""', '-1 0 "" ""', '0 -0 "" ""', '00 0 "" ""', '"0" 0 "" ""', '0 () "" ""', '0 0 ""',
                     '0 0 "" "" ""', '0 0  "" ""', '0 0 "", ""', '0 0 ""', "0 0", "0", "", '0 0 "" "', "0 0 a b", '0 0 """"',
                     "0" * 5000 + ' 0 "" ""', "9" * 6000 + ' 0 "" ""'):
            self.check(begin + f"road {road}\n", 4)
        self.check(begin + 'road 0 1 "" ""\nplace 0\n', 5)
        self.check(begin + 'road 0 1 "" ""\nroad 0 0 "" ""\n', 5)
        self.check(begin + 'road 0 1 "" ""\nroad 0 1 5 ""\n', 5)
        self.check(begin + 'road 0 1 () ""\nroad 0 1 "" ""\n', 5)
        self.assertEqual(len(read_house(begin + 'road 0 1 5 ""\nroad 0 1 "" 5\nroad 0 1 "" ""\nroad 0 1 "" ""\nroad 0 1 () ""\n')
                             .nets_kept()["a"].roads()), 5)

    def test_words_that_are_none(self):
        for word in ("", "a", "'a'", '"a', 'a"', '"a"b', '"\\a"', '"\\', '"a\\"', "-", "+1", "01", "-0", "-01", "1.0", "1 2", "0x1", "(",
                     ")", "(1", "1)", "(1,)", "(,1)", "(,)", "(1,,2)", "(1 2)", "(1, 2)", "( 1)", "(1)(2)", "()()", '("a""b")',
                     "True", "None", "[1]", "{}", "1_0", "\u0661", "\xb2", "(" * 7000, "(" * 3000 + ")" * 2999, '("a",("b)', "--1", '"\n"'):
            self.check(f"net a\nplace {word}\n", 2)
        for word in ("1" * 30, '" "', "((((()))))", '"\\\\\\""', "-7", '(1,-2,"","\\"",())'):
            text = f"net a\nplace {word}\n"
            self.assertEqual(write_house(read_house(text)), text)

    def test_questions(self):
        begin = "net a\nplace 0\nplace 1\n"
        for question in ('("kinds","b")', '("kinds")', '"kinds"', '("alike","a",0,"a",2)', '("alike","a",0,"a",-1)', "()", "0",
                         '("wish",("a"),("true",(1,2)))', '("pieces","a",(1,0),"a",(0,1))', '("kinds", "a")', '("kinds","a") '):
            for word in ("watch", "hold"):
                self.check(begin + f"{word} {question}\n", 4)
        for word in ("watch", "hold"):
            self.check(begin + f'hold ("kinds","a")\n{word} ("kinds","a")\n', 5)
            self.check(begin + f'{word} ("kinds","a")\nnet b\nplace 0\n', 5)
            self.check(begin + f'{word} ("kinds","a")\nplace 0\n', 5)
            self.check(begin + f'{word} ("kinds","a")\nroad 0 0 "" ""\n', 5)
            self.check(f'{word} ("kinds","a")\n', 1)
            self.check(f'net a\nplace 0\n{word} ("kinds","b")\nnet b\nplace 0\n', 3)
        self.check(begin + 'leave ("kinds","a")\n', 4)
        self.check(begin + "hold\n", 4)
        self.check(begin + "watch \n", 4)

    def test_the_first_line_is_told(self):
        self.check("net b\nplace 0\nplace x\nnet a\nplace y\nwhat", 3)
        self.check("net b\nplace 0\nwhat\nnet a", 3)
        self.check("what\nnet b\n", 1)

    def test_limits(self):
        begin = time.time()
        house = house_with(*[("net", name, ["s" * 20] * 10, [(at % 10, at * 3 % 10, "o" * 10, "i" * 10) for at in range(25)])
                             for name in "abcde"])
        text = write_house(house)
        self.assertGreater(len(text), 5000)
        self.assertTrue(read_house(text) == house)
        number = 7 * 10 ** 2500 + 10 ** 999 + 3
        self.assertEqual(read_house(f"net a\nplace -{number}\n").nets_kept()["a"].signs(), [-number])
        text = 'net a\nplace "' + "x" * 7900 + '"\n'
        self.assertEqual(write_house(read_house(text)), text)
        self.check("x" * 10 ** 6, 1)
        self.check("net a\nplace " + "9" * 9000, 2)
        self.assertLess(time.time() - begin, 5)


class TestExample(unittest.TestCase):
    def test_point_144(self):
        house = House()
        house.do(("net", "r", ["a", "a", "a"], [(0, 1, "", ""), (1, 2, "", ""), (2, 0, "", "")]))
        house.do(("watch", ("rounds", "r")))
        house.do(("hold", ("alike", "r", 0, "r", 1)))
        lines = write_house(house).split("\n")
        self.assertEqual(lines[:2], ["net r", 'place "a"'])
        self.assertEqual(lines[-2:], ['hold ("alike","r",0,"r",1)', ""])


if __name__ == "__main__":
    unittest.main()
