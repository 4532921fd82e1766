"""All errors of the package: each keeps what it is made with under the names of its parameters."""


class NetError(ValueError):
    pass


class BadAnswers(NetError):
    def __init__(self, index):
        self.index = index


class BadBase(NetError):
    def __init__(self, thing):
        self.thing = thing


class BadBegun(NetError):
    def __init__(self, index):
        self.index = index


class BadChance(NetError):
    def __init__(self, thing):
        self.thing = thing


class BadChoice(NetError):
    def __init__(self, thing):
        self.thing = thing


class BadCopies(NetError):
    def __init__(self, index):
        self.index = index


class BadCounts(NetError):
    def __init__(self, index):
        self.index = index


class BadCourse(NetError):
    def __init__(self, index):
        self.index = index


class BadDeed(NetError):
    def __init__(self, thing):
        self.thing = thing


class BadDoor(NetError):
    def __init__(self, thing):
        self.thing = thing


class BadDoors(NetError):
    def __init__(self, index):
        self.index = index


class BadDue(NetError):
    def __init__(self, thing):
        self.thing = thing


class BadForm(NetError):
    def __init__(self, index):
        self.index = index


class BadImages(NetError):
    def __init__(self, index):
        self.index = index


class BadIns(NetError):
    def __init__(self, index):
        self.index = index


class BadLetters(NetError):
    def __init__(self, index):
        self.index = index


class BadLoops(NetError):
    def __init__(self, thing):
        self.thing = thing


class BadMany(NetError):
    def __init__(self, thing):
        self.thing = thing


class BadModuli(NetError):
    def __init__(self, index):
        self.index = index


class BadNetRow(NetError):
    def __init__(self, index):
        self.index = index


class BadNetRows(NetError):
    def __init__(self, index):
        self.index = index


class BadNets(NetError):
    def __init__(self, index):
        self.index = index


class BadNumber(NetError):
    def __init__(self, thing):
        self.thing = thing


class BadOrder(NetError):
    def __init__(self, index):
        self.index = index


class BadOuts(NetError):
    def __init__(self, index):
        self.index = index


class BadParting(NetError):
    def __init__(self, index):
        self.index = index


class BadPeriod(NetError):
    def __init__(self, thing):
        self.thing = thing


class BadPicks(NetError):
    def __init__(self, index):
        self.index = index


class BadPiece(NetError):
    def __init__(self, thing):
        self.thing = thing


class BadPieces(NetError):
    def __init__(self, index):
        self.index = index


class BadPlaces(NetError):
    def __init__(self, index):
        self.index = index


class BadPlan(NetError):
    def __init__(self, thing):
        self.thing = thing


class BadQuestion(NetError):
    def __init__(self, thing):
        self.thing = thing


class BadRight(NetError):
    def __init__(self, thing):
        self.thing = thing


class BadRoads(NetError):
    def __init__(self, index):
        self.index = index


class BadSenses(NetError):
    def __init__(self, index):
        self.index = index


class BadSheet(NetError):
    def __init__(self, index):
        self.index = index


class BadSides(NetError):
    def __init__(self, thing):
        self.thing = thing


class BadSigns(NetError):
    def __init__(self, index):
        self.index = index


class BadSteps(NetError):
    def __init__(self, index):
        self.index = index


class BadText(NetError):
    def __init__(self, line):
        self.line = line


class BadThrow(NetError):
    def __init__(self, index):
        self.index = index


class BadTimes(NetError):
    def __init__(self, thing):
        self.thing = thing


class BadTurn(NetError):
    def __init__(self, thing):
        self.thing = thing


class BadTurns(NetError):
    def __init__(self, index):
        self.index = index


class BadView(NetError):
    def __init__(self, thing):
        self.thing = thing


class BadViews(NetError):
    def __init__(self, index):
        self.index = index


class BadWalk(NetError):
    def __init__(self, index):
        self.index = index


class BadWalker(NetError):
    def __init__(self, thing):
        self.thing = thing


class BadWords(NetError):
    def __init__(self, index):
        self.index = index


class BadWritten(NetError):
    def __init__(self, thing):
        self.thing = thing


class CanBeDone(NetError):
    pass


class InUse(NetError):
    def __init__(self, question):
        self.question = question


class IsSure(NetError):
    pass


class IsWatched(NetError):
    def __init__(self, thing):
        self.thing = thing


class LastPlace(NetError):
    pass


class NoCount(NetError):
    def __init__(self, thing):
        self.thing = thing


class NoFit(NetError):
    def __init__(self, many):
        self.many = many


class NoGate(NetError):
    def __init__(self, thing):
        self.thing = thing


class NoGroup(NetError):
    def __init__(self, thing):
        self.thing = thing


class NoMove(NetError):
    def __init__(self, thing):
        self.thing = thing


class NoNet(NetError):
    def __init__(self, name):
        self.name = name


class NoPlace(NetError):
    def __init__(self, thing):
        self.thing = thing


class NoRoad(NetError):
    def __init__(self, road):
        self.road = road


class NoState(NetError):
    def __init__(self, thing):
        self.thing = thing


class NoWord(NetError):
    def __init__(self, thing):
        self.thing = thing


class NotEven(NetError):
    def __init__(self, one, other):
        self.one = one
        self.other = other


class NotJoined(NetError):
    def __init__(self, thing):
        self.thing = thing


class NotOver(NetError):
    pass


class NotStrong(NetError):
    def __init__(self, thing):
        self.thing = thing


class NotTwoWay(NetError):
    def __init__(self, thing):
        self.thing = thing


class NotWatched(NetError):
    def __init__(self, thing):
        self.thing = thing


class NotWhole(NetError):
    pass


class OpenView(NetError):
    def __init__(self, thing):
        self.thing = thing


class SameDue(NetError):
    def __init__(self, thing):
        self.thing = thing


class TakenName(NetError):
    def __init__(self, name):
        self.name = name


class ToldApart(NetError):
    pass


class UnlikeGates(NetError):
    pass


class WouldChange(NetError):
    def __init__(self, question):
        self.question = question
