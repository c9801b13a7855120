"""The errors that deltamill raises. Each keeps the values that it was called with."""


class MillError(ValueError):
    """The base class of all errors of deltamill."""

    def class_word(self):
        """The name of the error's class."""
        return self.__class__.__name__


class MomentError(MillError):
    """A moment is wrong; `moment` is that value, whatever it is."""

    def __init__(self, moment):
        self.moment = moment


class BadMoment(MomentError):
    """The value is not a moment with the right number of axes."""


class DoubleMoment(MomentError):
    """The moment occurs earlier in the list."""


class TooLate(MomentError):
    """The moment is not open any more."""


class StillOpen(MomentError):
    """The moment is still open."""


class Forgotten(MomentError):
    """The moment can no longer be asked."""


class NotAdvanced(MomentError):
    """The moment is open in the new front, but not in the old one."""


class PlanError(MillError):
    """A part of a plan is wrong; `path` leads to it."""

    def __init__(self, path):
        self.path = path


class BadPlan(PlanError):
    """The node has none of the forms of a plan."""


class LoopRule(PlanError):
    """The node must not contain the own table of a loop around it."""


class NoPart(PlanError):
    """No part has the path."""


class NotPolynomial(PlanError):
    """The node cannot stand in a polynomial plan."""


class NotMonotone(PlanError):
    """The node cannot stand in a monotone plan."""


class NotQuery(PlanError):
    """The node cannot stand in a sum, or in a union."""


class UnknownTable(PlanError):
    """The table part has a name without a width."""

    def __init__(self, path, name):
        PlanError.__init__(self, path)
        self.name = name


class NameTaken(PlanError):
    """The name of the loop means something else already."""

    def __init__(self, path, name):
        PlanError.__init__(self, path)
        self.name = name


class NoColumn(PlanError):
    """The node uses a column that its sub-plan does not have."""

    def __init__(self, path, column):
        PlanError.__init__(self, path)
        self.column = column


class UnlikeWidths(PlanError):
    """Two plans that must have the same width have not."""

    def __init__(self, path, left, right):
        PlanError.__init__(self, path)
        self.left = left
        self.right = right


class NameMissing(MillError):
    """Nothing has the name."""

    def __init__(self, name):
        self.name = name


class NoTable(NameMissing):
    """No table has the name."""


class NoOutput(NameMissing):
    """No output has the name."""


class NoBranch(NameMissing):
    """No branch has the name."""


class ValueRefused(MillError):
    """The value is not allowed."""

    def __init__(self, value):
        self.value = value


class BadAxes(ValueRefused):
    """The value is not an allowed number of axes."""


class BadRow(ValueRefused):
    """The value is not a row, or not one of the right width."""


class BadCount(ValueRefused):
    """The value is not a count."""


class BadText(ValueRefused):
    """The value is not the text of a plan."""


class BadDepth(ValueRefused):
    """The value is not an allowed depth."""


class NoSide(ValueRefused):
    """The machine has no such side."""


class UnlikeAxes(MillError):
    """Two values that must have the same number of axes have not."""

    def __init__(self, left, right):
        self.left = left
        self.right = right


class TooMany(MillError):
    """More is given than the limit allows."""

    def __init__(self, limit):
        self.limit = limit


class NoStep(MillError):
    """The rule does not fit at the path."""

    def __init__(self, rule, path):
        self.rule = rule
        self.path = path


class BadSteps(MillError):
    """The step at the index cannot be done."""

    def __init__(self, index):
        self.index = index


class Refused(MillError):
    """The line at the index was refused with the reply."""

    def __init__(self, index, reply):
        self.index = index
        self.reply = reply


class NothingToUndo(MillError):
    """There is nothing to take back."""


class NothingToRedo(MillError):
    """There is nothing to do again."""


class BadLine(MillError):
    """The line is not written as a desk reads lines."""
