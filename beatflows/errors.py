"""The refusals: three families, and a class of its own for each thing that is refused.

No message shows what was handed in: that may be any thing, and large; the fields hold it.
"""


class FlowError(ValueError):
    """What was handed in isn't what is wanted."""

    def __init__(self, text):
        ValueError.__init__(self, text)


class Missing(KeyError):
    """What was asked for isn't there."""

    def __init__(self, text):
        KeyError.__init__(self, text)


class Barred(LookupError):
    """What was asked for can't be now."""

    def __init__(self, text):
        LookupError.__init__(self, text)


class NoKind(FlowError):
    def __init__(self, found):
        FlowError.__init__(self, "no kind")
        self.found = found


class NoWidth(FlowError):
    def __init__(self, found):
        FlowError.__init__(self, "no width")
        self.found = found


class NoWorth(FlowError):
    def __init__(self, found):
        FlowError.__init__(self, "no worth of the width")
        self.found = found


class NoWorths(FlowError):
    def __init__(self, found):
        FlowError.__init__(self, "no such worths as are wanted")
        self.found = found


class NoBits(FlowError):
    def __init__(self, found):
        FlowError.__init__(self, "no list of one to eight truths")
        self.found = found


class NoNumber(FlowError):
    def __init__(self, found):
        FlowError.__init__(self, "no such number as is wanted")
        self.found = found


class NoOp(FlowError):
    def __init__(self, found):
        FlowError.__init__(self, "no word of reckoning")
        self.found = found


class NoTerm(FlowError):
    def __init__(self, found):
        FlowError.__init__(self, "no such term or right side")
        self.found = found


class NoNames(FlowError):
    def __init__(self, found):
        FlowError.__init__(self, "no dict from names to names")
        self.found = found


class NoNode(FlowError):
    def __init__(self, found):
        FlowError.__init__(self, "no node")
        self.found = found


class NoNodes(FlowError):
    def __init__(self, found):
        FlowError.__init__(self, "no list of nodes")
        self.found = found


class NoProgram(FlowError):
    def __init__(self, found):
        FlowError.__init__(self, "no program")
        self.found = found


class NoIns(FlowError):
    def __init__(self, found):
        FlowError.__init__(self, "no such ins as are wanted")
        self.found = found


class NoFlat(FlowError):
    def __init__(self, found):
        FlowError.__init__(self, "no flat list")
        self.found = found


class NoCode(FlowError):
    def __init__(self, found):
        FlowError.__init__(self, "no code")
        self.found = found


class NoWires(FlowError):
    def __init__(self, found):
        FlowError.__init__(self, "no net of wires")
        self.found = found


class NoLetter(FlowError):
    def __init__(self, found):
        FlowError.__init__(self, "no letter")
        self.found = found


class NoPaper(FlowError):
    def __init__(self, found):
        FlowError.__init__(self, "no paper")
        self.found = found


class NoEdit(FlowError):
    def __init__(self, found):
        FlowError.__init__(self, "no such edit as can be led over")
        self.found = found


class NoModules(FlowError):
    def __init__(self, found):
        FlowError.__init__(self, "no such modules as are wanted")
        self.found = found


class NoText(FlowError):
    def __init__(self, found):
        FlowError.__init__(self, "no such text as can be read")
        self.found = found


class NoLine(FlowError):
    def __init__(self, found):
        FlowError.__init__(self, "no row that a desk takes")
        self.found = found


class Unfit(FlowError):
    def __init__(self, where, at, why, found):
        FlowError.__init__(self, "a node doesn't fit")
        self.where = where
        self.at = at
        self.why = why
        self.found = found


class Ringed(FlowError):
    def __init__(self, where, ring):
        FlowError.__init__(self, "flows need one another in a ring")
        self.where = where
        self.ring = ring


class Bare(FlowError):
    def __init__(self, where, at, found):
        FlowError.__init__(self, "a worth may lack")
        self.where = where
        self.at = at
        self.found = found


class NoRow(FlowError):
    def __init__(self, at):
        FlowError.__init__(self, "a row isn't right")
        self.at = at


class NotThere(Missing):
    def __init__(self, found):
        Missing.__init__(self, "not there")
        self.found = found


class NoOut(Missing):
    def __init__(self, found):
        Missing.__init__(self, "no out that is a saying")
        self.found = found


class NoImport(Missing):
    def __init__(self, where, found):
        Missing.__init__(self, "a used module isn't there")
        self.where = where
        self.found = found


class TooMany(Barred):
    def __init__(self, many):
        Barred.__init__(self, "too many")
        self.many = many


class TooSlow(Barred):
    def __init__(self, many):
        Barred.__init__(self, "too many steps for the time of a beat")
        self.many = many


class TooLate(Barred):
    def __init__(self, found):
        Barred.__init__(self, "the beat has begun")
        self.found = found


class Twice(Barred):
    def __init__(self, found):
        Barred.__init__(self, "given once already")
        self.found = found


class Over(Barred):
    def __init__(self, found):
        Barred.__init__(self, "the beats are over")
        self.found = found


class Busy(Barred):
    def __init__(self, found):
        Barred.__init__(self, "ticks go by")
        self.found = found
