"""Walkers: they go along the possible beginnings of a plan, group by group."""

from lesslater.courses import next_groups, point, running
from lesslater.errors import NoBack, NoGroup
from lesslater.fractions import is_whole_number
from lesslater.plans import is_ascending


def possible_groups(plan, beginning):
    """Return the ascending tuple of the next groups with which a beginning is possible."""
    groups = next_groups(plan, beginning)
    return tuple([group for group in groups if point(plan, (*beginning, group)) is not None])


class Walker:
    """A place among the beginnings of a plan."""

    def __init__(self, plan):
        self.held_plan = plan
        self.stand_at(())

    @property
    def plan(self):
        """The plan."""
        return self.held_plan

    @property
    def beginning(self):
        """The beginning at which the walker stands."""
        return self.held_beginning

    @property
    def groups(self):
        """The ascending tuple of the groups by which the walker can go on."""
        return self.held_groups

    def __call__(self, group):
        """Go on by a group and return the tasks that are running behind it, ascending."""
        # To Python (True,) is equal to (1,): so it is not enough that the group is among the others.
        if not is_ascending(group, len(self.held_plan)) or group not in self.held_groups:
            raise NoGroup(group)
        self.stand_at((*self.held_beginning, group))
        return running(self.held_plan, self.held_beginning)

    def __len__(self):
        return len(self.held_beginning)

    def __eq__(self, other):
        return (
            isinstance(other, Walker) and self.held_plan == other.held_plan
            and self.held_beginning == other.held_beginning
        )

    def stand_at(self, beginning):
        """Go to a possible beginning, wherever the walker stands."""
        self.held_beginning = beginning
        # A property changes nothing, not even the tables of a search: so the groups are found here.
        self.held_groups = possible_groups(self.held_plan, beginning)

    def back(self, many=1):
        """Take the last groups back and return the beginning that is left."""
        if not is_whole_number(many) or not 1 <= many <= len(self.held_beginning):
            raise NoBack(many)
        self.stand_at(self.held_beginning[:len(self.held_beginning) - many])
        return self.held_beginning

    def twin(self):
        """Return another walker at the same place, which goes on by itself."""
        other = Walker(self.held_plan)
        other.stand_at(self.held_beginning)
        return other
