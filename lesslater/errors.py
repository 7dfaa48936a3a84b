"""The errors of the package.

No class hands a message to its base class: Python keeps the arguments
themselves then, so that a report shows them and a copy can be made from them.
"""


class PlanError(ValueError):
    """What stands above all errors of the package but NoPair and NoTask."""


class BadDay(PlanError):
    """A day that is no fraction."""

    def __init__(self, value):
        self.value = value


class BadDurations(PlanError):
    """No durations of the plan; index is the first wrong item, -1 for the whole."""

    def __init__(self, index):
        self.index = index


class BadFraction(PlanError):
    """No fraction can be made; place is 0 for the top, 1 for the bottom."""

    def __init__(self, place):
        self.place = place


class BadMost(PlanError):
    """A number of pairs that cannot be asked for."""

    def __init__(self, most):
        self.most = most


class BadPlan(PlanError):
    """No plan; number is the wrong task's or None, word says what is wrong."""

    def __init__(self, number, word):
        self.number = number
        self.word = word


class BadText(PlanError):
    """No plan's text; line is the first wrong one, 0 for no string, -1 for a text that ends too early."""

    def __init__(self, line):
        self.line = line


class Full(PlanError):
    """A bench with as many edits in effect as it takes."""


class Late(PlanError):
    """A plan that can end behind the day; durations are some with which it does."""

    def __init__(self, durations):
        self.durations = durations


class NoBack(PlanError):
    """A number of groups that a walker cannot take back."""

    def __init__(self, many):
        self.many = many


class NoGroup(PlanError):
    """A group by which a walker cannot go on."""

    def __init__(self, group):
        self.group = group


class NotBeside(PlanError):
    """Two plans that do not have the same durations."""


class NothingToUndo(PlanError):
    """A bench without an edit in effect."""


class TooMany(PlanError):
    """More than a bound allows; limit is the bound."""

    def __init__(self, limit):
        self.limit = limit


class NoPair(LookupError):
    """A task that is no forerunner of the other one."""

    def __init__(self, before, behind):
        self.before = before
        self.behind = behind


class NoTask(LookupError):
    """A number that no task has."""

    def __init__(self, number):
        self.number = number
