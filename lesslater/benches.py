"""Benches: they keep a plan under edits, and that the whole ends by a day."""

from lesslater.bounds import MAX_EDITS
from lesslater.errors import BadDay, Full, Late, NothingToUndo
from lesslater.fractions import is_below, is_fraction
from lesslater.jumps import first_jump
from lesslater.lateness import beyond, latest


def end_by_day(plan, day):
    """Return the latest end of a plan; raise Late if it is behind a day."""
    end = latest(plan)[0]
    # No whole end is above the latest one, but some come as near to it as one likes: so some are behind the day.
    if is_below(day, end):
        raise Late(beyond(plan, day))
    return end


def news_between(old, new):
    """Return the word for how a latest end has changed."""
    if is_below(old, new):
        return "later"
    if is_below(new, old):
        return "sooner"
    return "same"


class Bench:
    """A plan and a day, with the edits that are in effect."""

    def __init__(self, plan, day):
        self.held_end = end_by_day(plan, day)
        self.held_plan = plan
        self.held_day = day
        self.held_news = "same"
        # What was in effect ahead of each edit.
        self.past = ()

    @property
    def plan(self):
        """The plan."""
        return self.held_plan

    @property
    def day(self):
        """The day by which the whole ends."""
        return self.held_day

    @property
    def version(self):
        """How many edits are in effect."""
        return len(self.past)

    @property
    def news(self):
        """The word for how the latest end has changed last."""
        return self.held_news

    def __getitem__(self, at):
        return self.held_plan[at]

    def __setitem__(self, at, worth):
        self.set_task(at, worth)

    def __iter__(self):
        raise TypeError("a bench is not walked over")

    def __eq__(self, other):
        return isinstance(other, Bench) and self.held_plan == other.held_plan and self.held_day == other.held_day

    def __str__(self):
        return f"bench at version {len(self.past)}"

    def is_steady(self):
        """Return whether the plan is steady."""
        # A bench holds no plan with too many courses: so these need not be counted once more.
        return first_jump(self.held_plan) is None

    def check_room(self):
        """Raise Full if as many edits are in effect as can be."""
        if len(self.past) >= MAX_EDITS:
            raise Full()

    def put(self, plan, day, end, past):
        """Put another plan with its latest end, day and past in effect, and return the new version."""
        self.held_news = news_between(self.held_end, end)
        self.held_plan = plan
        self.held_day = day
        self.held_end = end
        self.past = past
        return len(past)

    def edit(self, plan, day):
        """Do an edit to another plan or day, if the whole ends by the day then, and return the new version."""
        end = end_by_day(plan, day)
        return self.put(plan, day, end, (*self.past, (self.held_plan, self.held_day, self.held_end)))

    def set_task(self, number, task):
        """Put another task in the place of one."""
        self.check_room()
        return self.edit(self.held_plan.with_task(number, task), self.held_day)

    def set_order(self, order):
        """Take another list."""
        self.check_room()
        return self.edit(self.held_plan.with_order(order), self.held_day)

    def set_workers(self, workers):
        """Take another number of workers."""
        self.check_room()
        return self.edit(self.held_plan.with_workers(workers), self.held_day)

    def add_pair(self, before, behind):
        """Make before a forerunner of behind."""
        self.check_room()
        return self.edit(self.held_plan.with_pair(before, behind), self.held_day)

    def drop_pair(self, before, behind):
        """Make before no forerunner of behind."""
        self.check_room()
        return self.edit(self.held_plan.without_pair(before, behind), self.held_day)

    def set_day(self, value):
        """Take another day."""
        self.check_room()
        if not is_fraction(value):
            raise BadDay(value)
        return self.edit(self.held_plan, value)

    def undo(self):
        """Take the last edit in effect back and return the new version."""
        if len(self.past) == 0:
            raise NothingToUndo()
        plan, day, end = self.past[-1]
        return self.put(plan, day, end, self.past[:-1])

    def tried(self, function):
        """Return what function returns for the bench, which stands behind the call as it was ahead of it."""
        plan, day, end = self.held_plan, self.held_day, self.held_end
        news, past = self.held_news, self.past
        try:
            return function(self)
        finally:
            self.held_plan = plan
            self.held_day = day
            self.held_end = end
            self.held_news = news
            self.past = past
