"""Points 2, 4: the errors."""

import inspect
import unittest

from samefromhere import errors
from samefromhere.errors import NetError

NAMES = """BadAnswers(index) BadBase(thing) BadBegun(index) BadChance(thing) BadChoice(thing) BadCopies(index)
BadCounts(index) BadCourse(index) BadDeed(thing) BadDoor(thing) BadDoors(index) BadDue(thing) BadForm(index)
BadImages(index) BadIns(index) BadLetters(index) BadLoops(thing) BadMany(thing) BadModuli(index) BadNetRow(index)
BadNetRows(index) BadNets(index) BadNumber(thing) BadOrder(index) BadOuts(index) BadParting(index) BadPeriod(thing)
BadPicks(index) BadPiece(thing) BadPieces(index) BadPlaces(index) BadPlan(thing) BadQuestion(thing) BadRight(thing)
BadRoads(index) BadSenses(index) BadSheet(index) BadSides(thing) BadSigns(index) BadSteps(index) BadText(line)
BadThrow(index) BadTimes(thing) BadTurn(thing) BadTurns(index) BadView(thing) BadViews(index) BadWalk(index)
BadWalker(thing) BadWords(index) BadWritten(thing) CanBeDone() InUse(question) IsSure() IsWatched(thing) LastPlace()
NoCount(thing) NoFit(many) NoGate(thing) NoGroup(thing) NoMove(thing) NoNet(name) NoPlace(thing) NoRoad(road)
NoState(thing) NoWord(thing) NotEven(one,other) NotJoined(thing) NotOver() NotStrong(thing) NotTwoWay(thing)
NotWatched(thing) NotWhole() OpenView(thing) SameDue(thing) TakenName(name) ToldApart() UnlikeGates()
WouldChange(question)""".split()


class TestErrors(unittest.TestCase):
    def test_net_error(self):
        self.assertEqual(NetError.__bases__, (ValueError,))
        self.assertIsInstance(NetError(), ValueError)

    def test_each_is_right_beneath_net_error_and_keeps_the_very_objects(self):
        for told in NAMES:
            name, parameters = told[:-1].split("(")
            parameters = [part for part in parameters.split(",") if part]
            kind = getattr(errors, name)
            self.assertEqual(kind.__bases__, (NetError,))
            self.assertEqual(kind.__module__, "samefromhere.errors")
            things = [[object()] for _ in parameters]
            for error in (kind(*things), kind(**dict(zip(parameters, things)))):
                for parameter, thing in zip(parameters, things):
                    self.assertIs(getattr(error, parameter), thing)
            with self.assertRaises(NetError):
                raise kind(*things)

    def test_no_other_classes(self):
        found = {name for name, kind in inspect.getmembers(errors, inspect.isclass)}
        self.assertEqual(found, {told.split("(")[0] for told in NAMES} | {"NetError"})
