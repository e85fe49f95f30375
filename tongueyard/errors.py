"""All refusals. Each keeps what it was made with, by the names of its fields."""


class YardError(ValueError):
    """Any refusal."""


class NoName(YardError):
    def __init__(self, name):
        self.name = name


class NoGrammar(YardError):
    def __init__(self, what, name):
        self.what = what
        self.name = name


class NoLabel(YardError):
    def __init__(self, label):
        self.label = label


class NoTree(YardError):
    def __init__(self, node):
        self.node = node


class NoNode(YardError):
    def __init__(self, number):
        self.number = number


class Barred(YardError):
    def __init__(self, label):
        self.label = label


class AllBarred(YardError):
    """No tree of the grammar's beginning is left by its bars."""


class TooMany(YardError):
    def __init__(self, limit):
        self.limit = limit


class NoText(YardError):
    def __init__(self, at):
        self.at = at


class NoReading(YardError):
    def __init__(self, at, may_kinds):
        self.at = at
        self.may_kinds = may_kinds


class Ringed(YardError):
    def __init__(self, name):
        self.name = name


class Many(YardError):
    def __init__(self, one, other):
        self.one = one
        self.other = other


class NoShape(YardError):
    def __init__(self, many):
        self.many = many


class NoPlace(YardError):
    def __init__(self, place):
        self.place = place


class NoLog(YardError):
    def __init__(self, at):
        self.at = at


class Clash(YardError):
    def __init__(self, one, other, at):
        self.one = one
        self.other = other
        self.at = at


class Stop(YardError):
    def __init__(self, at, may_kinds):
        self.at = at
        self.may_kinds = may_kinds


class NoItem(YardError):
    def __init__(self, state, label, kind):
        self.state = state
        self.label = label
        self.kind = kind


class NoTable(YardError):
    def __init__(self, row):
        self.row = row


class NoMend(YardError):
    """The grammar has no text, so no row can be made one."""


class NoDeeds(YardError):
    def __init__(self, at):
        self.at = at


class NoLayout(YardError):
    def __init__(self, label):
        self.label = label


class NotGood(YardError):
    def __init__(self, number):
        self.number = number


class NoPrint(YardError):
    def __init__(self, number):
        self.number = number


class NoTally(YardError):
    def __init__(self, what, row):
        self.what = what
        self.row = row


class NoGiven(YardError):
    def __init__(self, attribute):
        self.attribute = attribute


class RoundWorths(YardError):
    def __init__(self, circle):
        self.circle = circle


class NoWorth(YardError):
    def __init__(self, node, attribute):
        self.node = node
        self.attribute = attribute


class NoSpan(YardError):
    def __init__(self, span):
        self.span = span


class NoRoom(YardError):
    def __init__(self, many):
        self.many = many


class NoStep(YardError):
    def __init__(self, what):
        self.what = what


class Stopped(YardError):
    def __init__(self, number):
        self.number = number


class NoLead(YardError):
    def __init__(self, step, number, why):
        self.step = step
        self.number = number
        self.why = why


class NoBack(YardError):
    def __init__(self, label):
        self.label = label


class NoDeed(YardError):
    def __init__(self, word):
        self.word = word


class NotDone(YardError):
    def __init__(self, number):
        self.number = number


class NoVersion(YardError):
    def __init__(self, version):
        self.version = version


class Taken(YardError):
    def __init__(self, name):
        self.name = name


class NoSuch(YardError):
    def __init__(self, name):
        self.name = name


class NotStill(YardError):
    def __init__(self, name):
        self.name = name


class NotAlone(YardError):
    def __init__(self, name):
        self.name = name


class NoRow(YardError):
    def __init__(self, row):
        self.row = row
