"""Points 137 to 142: the house, its deeds and questions, and what is taken back."""

import random
import time
import unittest

from samefromhere.alike import alike_for
from samefromhere.countrows import count_row
from samefromhere.errors import (BadBase, BadDeed, BadQuestion, BadRoads, BadSigns, BadWritten, InUse, IsWatched, LastPlace,
                                 NetError, NoCount, NoNet, NoPlace, NoRoad, NotOver, NotWatched, TakenName, UnlikeGates,
                                 WouldChange)
from samefromhere.houses import House
from samefromhere.joinedpieces import cut_out
from samefromhere.kinds import kinds_for_ever, rounds_needed
from samefromhere.leastnets import least_net
from samefromhere.nets import Net
from samefromhere.piecetables import pair_table
from samefromhere.wishes import rounds_for
from samefromhere.written import written
from tests.helpers import ANY_OBJECTS, R, S, as_lists, as_tuples, ascending, faults, not_words, ring

RING_ROADS = ((0, 1, "", ""), (1, 2, "", ""), (2, 0, "", ""))
MADE = ("net", "r", ("a", "a", "a"), RING_ROADS)


def house_with(*deeds):
    house = House()
    for deed in deeds:
        house.do(deed)
    return house


def sample_house():
    """Three nets, questions of every kind, two of them held."""
    return house_with(
        MADE, ("net", "q", ("a", "b"), ((0, 1, "", ""), (1, 0, "", ""))), ("net", "base", ("a",), ((0, 0, "", ""),)),
        ("watch", ("kinds", "r")), ("hold", ("rounds", "q")), ("watch", ("alike", "r", 2, "q", 0)),
        ("hold", ("least", "r", "base")), ("watch", ("counts", "r", "base")))


def shown(house):
    """All that a house tells of itself."""
    return ({name: (net.signs(), net.roads()) for name, net in house.nets_kept().items()}, house.watched(), house.deeds(),
            house.count())


def later_too(house):
    """All that it tells of itself, and of what can be done again."""
    copy = house.copy()
    again = []
    while True:
        deed = copy.again()
        again.append((deed, shown(copy)))
        if deed is None:
            return shown(house), again


QUESTIONS = [("kinds", "r"), ("rounds", "r"), ("alike", "r", 0, "q", 1), ("least", "r", "base"), ("wish", ("r",), "head"),
             ("wish", ("r", "q"), ("colours", 2)), ("wish", ("q", "r", "q"), ("true", (1, ("w",), 1))),
             ("wish", ("q",), "names"), ("wish", ("q",), ("steps", "a")), ("wish", ("q",), "tree"), ("counts", "r", "base"),
             ("counts", "r", "q"), ("counts", "q", "q"), ("counts", "base", "r"), ("pieces", "r", (0, 1), "r", (1, 2)),
             ("pieces", "r", (), "q", ()), ("pieces", "r", (0,), "q", (0, 1)), ("pieces", "q", (0,), "q", (1,)),
             ("alike", "r", 1, "base", 0), ("alike", "q", 0, "q", 1)]


def slow_answer(nets, question):
    kind = question[0]
    if kind == "kinds":
        return as_tuples(kinds_for_ever(nets[question[1]]))
    if kind == "rounds":
        return rounds_needed(nets[question[1]])
    if kind == "alike":
        return alike_for(nets[question[1]], question[2], nets[question[3]], question[4])
    if kind == "least":
        return least_net(nets[question[1]]) == least_net(nets[question[2]])
    if kind == "wish":
        lot = [nets[name] for name in question[1]]
        return rounds_for(lot, *written(lot, question[2]))
    try:
        if kind == "counts":
            return count_row(nets[question[1]], nets[question[2]])
        one = cut_out(nets[question[1]], question[2])[1]
        return pair_table(one, cut_out(nets[question[3]], question[4])[1]) is not None
    except (BadBase, NotOver, UnlikeGates):
        return None


class TestQuestions(unittest.TestCase):
    def test_answers(self):
        house = sample_house()
        met = set()
        for question in QUESTIONS:
            wanted = slow_answer(house.nets_kept(), question)
            for asked in (question, as_lists(question)):
                self.assertIs(house.is_question(thing=asked), True)
                told = house.answer(question=asked)
                self.assertEqual((told, type(told)), (wanted, type(wanted)))
            met.add((question[0], type(wanted)))
        self.assertGreaterEqual(len(met), 11)
        self.assertEqual(house.answer(("kinds", "r")), ((0, 1, 2),))
        self.assertEqual(house.answer(("counts", "r", "base")), (3,))
        # One place without roads is no base.
        house.do(("net", "lone", ["a"], []))
        self.assertIsNone(house.answer(("counts", "lone", "lone")))
        self.assertIsNone(house.answer(("counts", "base", "lone")))

    def test_what_is_no_question(self):
        house = sample_house()
        bad = [thing for thing in ANY_OBJECTS if thing != ("kinds", "r")]
        bad += [("kinds",), ("kinds", "r", "r"), ("kinds", "x"), ("kinds", ["r"]), ("kinds", 0), ("rounds", None), ("Kinds", "r"),
                ("alike", "r", 0, "q"), ("alike", "r", 3, "q", 0), ("alike", "r", 0, "q", 2), ("alike", "r", True, "q", 0),
                ("alike", "r", -1, "q", 0), ("alike", "x", 0, "q", 0), ("alike", "r", 0, "x", 0), ("alike", "r", "0", "q", 0),
                ("least", "r"), ("least", "r", "x"), ("least", "r", "q", "q"), ("wish", "r", "head"), ("wish", (), "head"),
                ("wish", ("r",) * 4, "head"), ("wish", ("x",), "head"), ("wish", ("r", ["q"]), "head"), ("wish", ("r",), "tail"),
                ("wish", ("r",), ("colours", 0)), ("wish", ("r",), ("colours", True)), ("wish", ("r", "q"), ("true", (1,))),
                ("wish", ("r",), ("steps", None)), ("wish", ("r",)), ("wish", ("r",), ("head",)), ("counts", "r"),
                ("counts", "r", "x"), ("counts", "x", "r"), ("pieces", "r", (0, 0), "q", ()), ("pieces", "r", (1, 0), "q", ()),
                ("pieces", "r", (3,), "q", ()), ("pieces", "r", 0, "q", 0), ("pieces", "r", (), "q", (2,)),
                ("pieces", "r", (True,), "q", ()), ("pieces", "r", (0,), "q"), ("pieces", "x", (), "q", ()), ((), "r")]
        for thing in bad:
            self.assertIs(house.is_question(thing), False, thing)
            faults(house.answer, BadQuestion, "thing", [(thing, thing)])
            for kind in ("watch", "hold", "leave"):
                faults(house.do, BadQuestion, "thing", [((kind, thing), thing)])
                faults(house.would, BadQuestion, "thing", [((kind, thing), thing)])
        for question in QUESTIONS:
            self.assertFalse(House().is_question(question))

    def test_written_takes_the_word(self):
        house = sample_house()
        lot = [house.nets_kept()[name] for name in ("r", "q")]
        for word in ["head", "names", "tree", ("colours", 1), ("colours", -1), ("steps", ()), ("true", ("a", 0)), "true", 0]:
            try:
                written(lot, word)
                good = True
            except BadWritten:
                good = False
            self.assertIs(house.is_question(("wish", ("r", "q"), word)), good)


class Model:
    """What deeds do to nets, told straight from point 138: nets are pairs of lists."""

    def __init__(self):
        self.nets = {}

    def do(self, deed):
        kind, name, *more = as_tuples(deed)
        if kind == "net":
            self.nets[name] = (list(more[0]), list(more[1]))
            return
        signs, roads = self.nets[name]
        if kind == "place":
            signs.append(more[0])
        elif kind == "sign":
            signs[more[0]] = more[1]
        elif kind == "road":
            roads.append(tuple(more))
        elif kind == "off":
            roads.remove(tuple(more))
        elif kind == "drop":
            del self.nets[name]
        elif kind == "away":
            del signs[more[0]]
            kept = [road for road in roads if more[0] not in road[:2]]
            roads[:] = [(one - (one > more[0]), other - (other > more[0]), out, into) for one, other, out, into in kept]

    def shown(self):
        return {name: (signs, ascending(roads)) for name, (signs, roads) in sorted(self.nets.items())}


def random_deed(pick, nets):
    """A deed that can be done, as lists or tuples."""
    word = pick.choice(["a", "b", 0, ("w", ())])
    free = [name for name in ("a", "bb", "zzzzzzzz", "net", "r") if name not in nets]
    kinds = ["net"] if not nets else ["net", "place", "sign", "away", "road", "road", "road", "off", "drop"]
    kind = pick.choice(kinds)
    if kind == "net" and free:
        many = pick.randint(1, 3)
        return (kind, pick.choice(free), [word] * many, [(pick.randrange(many), pick.randrange(many), word, 0)])
    if not nets:
        return None
    name = pick.choice(sorted(nets))
    net = nets[name]
    place, other = pick.randrange(len(net)), pick.randrange(len(net))
    if kind == "off" and net.roads():
        return (kind, name, *pick.choice(net.roads()))
    made = {"place": (word,), "sign": (place, word), "away": (place,), "road": (place, other, word, [word]), "drop": ()}
    if kind not in made or kind == "away" and len(net) == 1:
        return None
    deed = (kind, name, *made[kind])
    return as_lists(deed) if pick.random() < 0.5 else deed


class TestDeeds(unittest.TestCase):
    def test_against_a_model(self):
        done = {}
        for seed in range(40):
            pick = random.Random(seed)
            house, model, deeds = House(), Model(), []
            for _ in range(25):
                deed = random_deed(pick, house.nets_kept())
                if deed is None:
                    continue
                self.assertEqual(house.do(deed=deed), [])
                model.do(deed)
                deeds.append(as_tuples(deed))
                nets = house.nets_kept()
                self.assertEqual(list(nets), sorted(nets))
                self.assertEqual({name: (net.signs(), net.roads()) for name, net in nets.items()}, model.shown())
                self.assertEqual(house.deeds(), deeds)
                self.assertEqual(house.count(), len(deeds))
                done[deed[0]] = done.get(deed[0], 0) + 1
        self.assertEqual(len(done), 7)
        self.assertGreater(min(done.values()), 8)

    def test_empty(self):
        house = House()
        self.assertEqual(shown(house), ({}, [], [], 0))
        self.assertIsNone(house.undo())
        self.assertIsNone(house.again())

    def test_deeds_that_are_told_can_be_done_elsewhere(self):
        house = sample_house()
        other = house_with(*house.deeds())
        self.assertTrue(other == house)
        self.assertEqual(shown(other), shown(house))
        deed = house.undo()
        self.assertEqual(other.undo(), deed)
        other.do(deed)
        house.again()
        self.assertTrue(other == house)

    def test_what_is_told_and_passed_can_be_changed(self):
        signs, roads = ["a", ["b"]], [[0, 1, ["x"], 0]]
        deed = ["net", "n", signs, roads]
        house = House()
        house.do(deed)
        question = ["alike", "n", 0, "n", 1]
        house.do(["watch", question])
        wanted = shown(house)
        self.assertEqual(wanted, ({"n": (["a", ("b",)], [(0, 1, ("x",), 0)])}, [(("alike", "n", 0, "n", 1), -1, False)],
                                  [("net", "n", ("a", ("b",)), ((0, 1, ("x",), 0),)), ("watch", ("alike", "n", 0, "n", 1))], 2))
        signs[1].append("c")
        roads.clear()
        question.clear()
        deed.clear()
        house.nets_kept().clear()
        house.watched().clear()
        house.deeds().clear()
        self.assertEqual(shown(house), wanted)
        changes = house.do(("sign", "n", 1, "a"))
        self.assertEqual(changes, [(("alike", "n", 0, "n", 1), -1, 0)])
        changes.clear()
        self.assertEqual(house.would(("sign", "n", 1, "b")), [(("alike", "n", 0, "n", 1), 0, -1)])

    def test_a_road_that_stands_twice_is_taken_once(self):
        house = house_with(MADE, ("road", "r", 0, 1, "", ""), ("off", "r", 0, 1, "", ""))
        self.assertEqual(house.nets_kept()["r"], Net(["a"] * 3, RING_ROADS))
        house.do(("off", "r", 0, 1, "", ""))
        faults(house.do, NoRoad, "road", [(["off", "r", 0, 1, "", ""], (0, 1, "", ""))])

    def test_bad_deed(self):
        house = sample_house()
        good = [MADE, ("place", "r", "s"), ("sign", "r", 0, "s"), ("away", "r", 0), ("road", "r", 0, 1, "x", "y"),
                ("off", "r", 0, 1, "", ""), ("drop", "r"), ("watch", None), ("hold", None), ("leave", None)]
        bad = [thing for thing in ANY_OBJECTS if thing != ("drop", "r")]
        bad += [(thing,) for thing in ANY_OBJECTS] + [(thing, "r", 0) for thing in ANY_OBJECTS]
        for deed in good:
            bad += [deed[:-1], deed + (0,), (deed[0].upper(),) + deed[1:]]
        names = [thing for thing in ANY_OBJECTS if not (isinstance(thing, str) and thing in ("a", "net"))]
        names += ["", "abcdefghi", "R", "r1", "r ", "a-b", ["r"], "\xe4", "aA"]
        for deed in good[:7]:
            bad += [(deed[0], name) + deed[2:] for name in names]
        for thing in ANY_OBJECTS:
            if type(thing) is not int or thing < 0:
                bad += [("sign", "r", thing, "s"), ("away", "r", thing), ("road", "r", thing, 0, 0, 0),
                        ("off", "r", 0, thing, 0, 0)]
        for thing in not_words():
            bad += [("place", "r", thing), ("sign", "r", 0, thing), ("road", "r", 0, 1, thing, 0), ("off", "r", 0, 1, 0, thing)]
        before = later_too(house)
        for thing in bad:
            faults(house.do, BadDeed, "thing", [(thing, thing)])
            faults(house.would, BadDeed, "thing", [(thing, thing)])
        self.assertEqual(later_too(house), before)

    def test_errors_of_names_places_roads(self):
        house = sample_house()
        before = later_too(house)
        for call in (house.do, house.would):
            faults(call, TakenName, "name", [(("net", "r", None, None), "r")])
            for deed in (("place", "x", 0), ("sign", "x", 9, 0), ("away", "x", 9), ("road", "x", 9, 9, 0, 0),
                         ("off", "x", 9, 9, 0, 0), ("drop", "x")):
                faults(call, NoNet, "name", [(deed, "x")])
            for thing in ANY_OBJECTS:
                if not isinstance(thing, (list, tuple)) or not thing:
                    faults(call, BadSigns, "index", [(("net", "x", thing, None), 0)])
                if not isinstance(thing, (list, tuple)):
                    faults(call, BadRoads, "index", [(("net", "x", ["a"], thing), 0)])
            faults(call, BadSigns, "index", [(("net", "x", ["a", None], None), 1)])
            faults(call, BadRoads, "index", [(("net", "x", ["a"], [(0, 0, 0, 0), (0, 1, 0, 0)]), 1)])
            faults(call, NoPlace, "thing", [(("sign", "r", 3, 0), 3), (("away", "base", 1), 1), (("road", "r", 3, 4, 0, 0), 3),
                                            (("road", "r", 2, 4, 0, 0), 4), (("off", "r", 5, 4, 0, 0), 5),
                                            (("off", "r", 0, 10 ** 30, 0, 0), 10 ** 30)])
            with self.assertRaises(LastPlace):
                call(("away", "base", 0))
            faults(call, NoRoad, "road", [(("off", "r", 0, 1, "", "x"), (0, 1, "", "x")),
                                          (["off", "r", 1, 0, ["o", [1]], ""], (1, 0, ("o", (1,)), ""))])
        self.assertEqual(later_too(house), before)

    def test_watch_hold_leave(self):
        house = sample_house()
        self.assertEqual(house.watched(), [(("kinds", "r"), ((0, 1, 2),), False), (("rounds", "q"), 0, True),
                                           (("alike", "r", 2, "q", 0), 0, False), (("least", "r", "base"), True, True),
                                           (("counts", "r", "base"), (3,), False)])
        for deed in (("watch", ["kinds", "r"]), ("watch", ("rounds", "q")), ("hold", ["rounds", "q"])):
            faults(house.do, IsWatched, "thing", [(deed, deed[1])])
        for thing in (("rounds", "r"), ["kinds", "q"]):
            faults(house.do, NotWatched, "thing", [(("leave", thing), thing)])
        # What is watched is held where it stands; what is not comes last.
        self.assertEqual(house.do(("hold", ["kinds", "r"])), [])
        self.assertEqual(house.watched()[0], (("kinds", "r"), ((0, 1, 2),), True))
        house.do(("hold", ("kinds", "q")))
        self.assertEqual(house.watched()[-1], (("kinds", "q"), ((0,), (1,)), True))
        self.assertEqual(len(house.watched()), 6)
        house.do(("leave", ["rounds", "q"]))
        self.assertEqual([row[0] for row in house.watched()],
                         [("kinds", "r"), ("alike", "r", 2, "q", 0), ("least", "r", "base"), ("counts", "r", "base"),
                          ("kinds", "q")])
        house.do(("watch", ("rounds", "q")))
        self.assertEqual(house.watched()[-1], (("rounds", "q"), 0, False))

    def test_in_use(self):
        house = sample_house()
        house.do(("watch", ("pieces", "r", (2,), "q", (1,))))
        before = later_too(house)
        for call in (house.do, house.would):
            faults(call, InUse, "question", [(("drop", "r"), ("kinds", "r")), (("drop", "q"), ("rounds", "q")),
                                             (("drop", "base"), ("least", "r", "base")),
                                             (("away", "r", 0), ("alike", "r", 2, "q", 0)),
                                             (("away", "q", 0), ("pieces", "r", (2,), "q", (1,)))])
        self.assertEqual(later_too(house), before)
        house.do(("leave", ("pieces", "r", (2,), "q", (1,))))
        house.do(("leave", ("alike", "r", 2, "q", 0)))
        # The kinds are told otherwise, but held ones are not.
        house.do(("leave", ("least", "r", "base")))
        self.assertEqual(house.do(("away", "r", 0)), [(("kinds", "r"), ((0, 1, 2),), ((0,), (1,))),
                                                      (("counts", "r", "base"), (3,), None)])

    def test_would_change(self):
        house = sample_house()
        before = later_too(house)
        deed = ("sign", "r", 1, "b")
        faults(house.do, WouldChange, "question", [(deed, ("least", "r", "base"))])
        self.assertEqual(house.would(deed=deed), [(("kinds", "r"), ((0, 1, 2),), ((0,), (1,), (2,))),
                                                  (("alike", "r", 2, "q", 0), 0, 2), (("least", "r", "base"), True, False),
                                                  (("counts", "r", "base"), (3,), None)])
        self.assertEqual(later_too(house), before)
        # InUse comes ahead of it, though a question that is held stands ahead of the one that would be none.
        house.do(("hold", ("kinds", "q")))
        house.do(("watch", ("alike", "q", 1, "q", 0)))
        faults(house.do, InUse, "question", [(("away", "q", 0), ("alike", "q", 1, "q", 0))])
        # Of several held ones the first is told.
        house.do(("hold", ("kinds", "r")))
        faults(house.do, WouldChange, "question", [(deed, ("kinds", "r"))])

    def test_order_of_errors(self):
        """Two faults at once: the earlier one is told."""
        house = sample_house()
        for deed, error in ((("net", "R", None, None), BadDeed), (("net", "r", [], None), TakenName),
                            (("net", "x", [], None), BadSigns), (("off", "x", 7, 8, "n", "o"), NoNet),
                            (("off", "q", 7, 8, "n", "o"), NoPlace), (("off", "q", 1, 8, "n", "o"), NoPlace),
                            (("away", "base", 3), NoPlace), (("away", "base", 0), LastPlace),
                            (("off", "q", 1, 1, "n", "o"), NoRoad), (("leave", ("kinds", "x")), BadQuestion),
                            (("drop", "base"), InUse), (("off", "r", 0, 1, "", ""), WouldChange)):
            with self.assertRaises(NetError) as caught:
                house.do(deed)
            self.assertIs(type(caught.exception), error, deed)

    def test_numbers_of_places_in_questions_stay(self):
        house = house_with(("net", "n", ["a", "b", "c", "d"], []), ("watch", ("alike", "n", 0, "n", 1)),
                           ("watch", ("pieces", "n", (0, 1), "n", (1, 2))))
        house.do(("sign", "n", 2, "b"))
        self.assertEqual(house.do(("away", "n", 0)), [(("alike", "n", 0, "n", 1), -1, None)])
        self.assertEqual([row[0] for row in house.watched()], [("alike", "n", 0, "n", 1), ("pieces", "n", (0, 1), "n", (1, 2))])
        self.assertEqual(house.nets_kept()["n"], Net(["b", "b", "d"], []))

    def test_changes_in_their_order(self):
        pick = random.Random(11)
        told = 0
        for seed in range(25):
            house = sample_house()
            for row in house.watched():
                house.do(("leave", row[0]))
            for question in pick.sample(QUESTIONS, 5):
                house.do((pick.choice(["watch", "watch", "hold"]), question))
            for _ in range(12):
                nets = house.nets_kept()
                deed = random_deed(pick, nets)
                if deed is None or deed[0] in ("net",):
                    continue
                model = Model()
                model.nets = {name: (net.signs(), net.roads()) for name, net in nets.items()}
                model.do(deed)
                later = {name: Net(*parts) for name, parts in model.nets.items()}
                rows = house.watched()
                none_now = [question for question, _, _ in rows if not slow_is_question(later, question)]
                if none_now:
                    faults(house.do, InUse, "question", [(deed, none_now[0])])
                    continue
                changes = [(question, answer, slow_answer(later, question)) for question, answer, _ in rows
                           if slow_answer(later, question) != answer]
                held = [question for question, _, is_held in rows if is_held and question in [row[0] for row in changes]]
                self.assertEqual(house.would(deed), changes)
                told += len(changes)
                if held:
                    faults(house.do, WouldChange, "question", [(deed, held[0])])
                else:
                    self.assertEqual(house.do(deed), changes)
                    self.assertEqual(house.watched(), [(question, slow_answer(later, question), is_held)
                                                       for question, _, is_held in rows])
        self.assertGreater(told, 40)


def slow_is_question(nets, question):
    try:
        slow_answer(nets, question)
        return True
    except (KeyError, NetError):
        return False


class TestSpareRoads(unittest.TestCase):
    def test_roads_taken_one_by_one(self):
        pick = random.Random(2)
        met = set()
        for seed in range(20):
            house = house_with(("net", "r", ["a"] * 3, [(pick.randrange(3), pick.randrange(3), pick.choice(["", "b", 3]), "")
                                                        for _ in range(6)] + [(0, 1, "", "")] * 2),
                               ("net", "q", ["a", "b"], [(0, 1, "", ""), (1, 0, "", "")]),
                               ("net", "base", ["a"], [(0, 0, "", "")]))
            for question in pick.sample(QUESTIONS[:13], pick.randint(0, 3)):
                house.do((pick.choice(["watch", "hold"]), question))
            before = later_too(house)
            for name in ("r", "q", "base"):
                roads = house.nets_kept()[name].roads()
                spare = [road for at, road in enumerate(roads) if road not in roads[:at]
                         and house.would(("off", name, *road)) == []]
                told = house.spare_roads(name=name)
                self.assertEqual(told, spare)
                self.assertIs(type(told), list)
                met.add((len(spare) > 0, len(spare) < len(set(roads))))
            self.assertEqual(later_too(house), before)
        self.assertGreaterEqual(len(met), 3)

    def test_errors(self):
        house = sample_house()
        faults(house.spare_roads, NoNet, "name", [(thing, thing) for thing in ANY_OBJECTS + ["x", "", ["r"], ("r",)]
                                                  if not isinstance(thing, str) or thing != "r"])


class TestBackAndOn(unittest.TestCase):
    def test_undo_and_again(self):
        house = sample_house()
        deeds = house.deeds()
        stands = [shown(house)]
        for deed in deeds[::-1]:
            self.assertEqual(house.undo(), deed)
            stands.append(shown(house))
            self.assertEqual(house.count(), len(house.deeds()))
        self.assertIsNone(house.undo())
        self.assertEqual(shown(house), ({}, [], [], 0))
        for stand, deed in zip(stands[-2::-1], deeds):
            told = house.again()
            self.assertEqual(told, deed)
            self.assertEqual(told, as_tuples(told))
            self.assertEqual(shown(house), stand)
        self.assertIsNone(house.again())

    def test_a_new_deed_ends_what_can_be_done_again(self):
        house = sample_house()
        house.undo()
        house.undo()
        # What is refused, and what is asked, changes nothing of it.
        for deed in (("drop", "x"), ("watch", ("kinds", "r")), None, ("away", "base", 0), ("drop", "r")):
            with self.assertRaises(NetError):
                house.do(deed)
        house.would(("place", "r", 0))
        house.spare_roads("r")
        self.assertEqual(house.copy().again(), ("hold", ("least", "r", "base")))
        house.do(("net", "more", ["x"], []))
        self.assertIsNone(house.again())

    def test_at(self):
        house = sample_house()
        copy = sample_house()
        stands = [shown(copy)]
        while copy.undo() is not None:
            stands.append(shown(copy))
        house.undo()
        for number in range(house.count() + 1):
            other = house.at(number=number)
            self.assertEqual(shown(other), stands[::-1][number])
            self.assertIsNone(other.again())
            if number:
                other.undo()
                self.assertEqual(shown(other), stands[::-1][number - 1])
        self.assertEqual(house.again(), ("watch", ("counts", "r", "base")))
        many = house.count()
        faults(house.at, NoCount, "thing", [(thing, thing) for thing in ANY_OBJECTS + [many + 1, -1]
                                            if type(thing) is not int or not 0 <= thing <= many])

    def test_others_go_on_by_themselves(self):
        house = sample_house()
        house.undo()
        before = later_too(house)
        for other in (house.copy(), house.at(house.count()), house.at(3)):
            other.undo()
            other.do(("net", "more", ["x"], []))
            self.assertEqual(later_too(house), before)
        copy = house.copy()
        self.assertEqual(later_too(copy), before)
        house.again()
        self.assertEqual(later_too(copy), before)

    def test_trial(self):
        house = sample_house()
        house.undo()
        before = later_too(house)
        told = []

        def work(given):
            self.assertIs(given, house)
            given.do(("net", "more", ["x"], []))
            given.undo()
            given.undo()
            told.append(given.trial(lambda inner: (inner is house, inner.do(("net", "most", ["y"], [])), inner.count())))
            given.do(("watch", ("rounds", "r")))
            return told

        self.assertIs(house.trial(work=work), told)
        self.assertEqual(told, [(True, [], house.count())])
        self.assertEqual(later_too(house), before)

        class Own(Exception):
            pass

        def fail(given):
            given.undo()
            raise Own

        with self.assertRaises(Own):
            house.trial(fail)
        self.assertEqual(later_too(house), before)
        with self.assertRaises(NoNet):
            house.trial(lambda given: given.undo() and given.do(("drop", "none")))
        self.assertEqual(later_too(house), before)

    def test_trials_within_one_another(self):
        house = sample_house()
        before = later_too(house)

        def work(depth):
            def inner(given):
                given.do(("net", "n" * (depth + 1), ["x"], []))
                stand = later_too(given)
                if depth < 5:
                    self.assertEqual(given.trial(work(depth + 1)), 5)
                    self.assertEqual(later_too(given), stand)
                return 5
            return inner

        self.assertEqual(house.trial(work(0)), 5)
        self.assertEqual(later_too(house), before)


class TestEqual(unittest.TestCase):
    def test_houses(self):
        one, other = sample_house(), sample_house()
        self.assertTrue(one == other)
        self.assertFalse(one != other)
        self.assertTrue(House() == House())
        other.do(("net", "more", ["x"], []))
        self.assertFalse(one == other)
        other.do(("drop", "more"))
        # How they came to be is all one.
        self.assertTrue(one == other)
        for deed in (("sign", "q", 0, "c"), ("leave", ("kinds", "r")), ("hold", ("kinds", "r")), ("watch", ("rounds", "r"))):
            other = sample_house()
            if deed[0] == "sign":
                other.do(("leave", ("rounds", "q")))
                third = one.copy()
                third.do(("leave", ("rounds", "q")))
                other.do(deed)
                self.assertFalse(third == other)
            else:
                other.do(deed)
                self.assertFalse(one == other)
                other.undo()
                self.assertTrue(one == other)
        near = house_with(MADE, ("watch", ("kinds", "r")), ("watch", ("rounds", "r")))
        away = house_with(MADE, ("watch", ("rounds", "r")), ("watch", ("kinds", "r")))
        self.assertFalse(near == away)
        self.assertFalse(house_with(MADE) == house_with(("net", "s", *MADE[2:])))

    def test_nothing_else(self):
        for house in (House(), sample_house()):
            for thing in ANY_OBJECTS + [house.nets_kept(), R]:
                if not isinstance(thing, House):
                    self.assertFalse(house == thing)
                    self.assertTrue(house != thing)


class TestLimits(unittest.TestCase):
    def test_a_large_house(self):
        begin = time.time()
        pick = random.Random(1)
        house = House()
        for name in ("a", "b", "c", "d", "e"):
            house.do(("net", name, ["s"] * 10, [(at, (at + 1) % 10, "", "") for at in range(10)] +
                      [(pick.randrange(10), pick.randrange(10), "", "x") for _ in range(15)]))
        for question in (("wish", ("a",), ("colours", 2)), ("kinds", "a"), ("pieces", "a", (0, 1, 2), "b", (3, 4, 5)),
                         ("alike", "a", 0, "b", 9), ("least", "a", "b")):
            house.do(("watch", question))
        for number in range(50):
            name = pick.choice("abcde")
            house.do(("sign", name, pick.randrange(10), pick.choice("st")))
        self.assertEqual(house.count(), 60)
        for name in "abc":
            house.spare_roads(name)
        self.assertEqual(house.at(10).count(), 10)
        self.assertLess(time.time() - begin, 20)

    def test_wishes_that_cannot_be(self):
        house = house_with(("net", "n", S.signs(), S.roads()), ("net", "m", ring("ab").signs(), ring("ab").roads()))
        self.assertIsNone(house.answer(("wish", ("n",), "names")))
        self.assertEqual(house.answer(("wish", ("m", "m"), "head")), 0)


if __name__ == "__main__":
    unittest.main()
