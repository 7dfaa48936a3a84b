"""Branches: how a plan can begin, group by group, each with the table of the durations that begin so."""

from lesslater.errors import TooMany
from lesslater.runs import taken
from lesslater.solver import table_of


def first_state(plan):
    """Return the pair of the tasks that are running and those that have ended, at moment 0."""
    return (taken(plan, (), ()), ())


def next_state(plan, state, group):
    """Return the state behind another one in which a group ends next."""
    busy, done = state
    left = tuple([number for number in busy if number not in group])
    done = done + group
    return (left + taken(plan, left, done), done)


def groups_of(busy):
    """Return the ascending tuple of the groups that may end next while some tasks are busy."""
    groups = [()]
    for number in sorted(busy):
        groups = groups + [(*group, number) for group in groups]
    return tuple(sorted([group for group in groups if len(group) > 0]))


def first_chains(busy, places):
    """Return for each task its chain at moment 0, each task told by its place among the durations."""
    return tuple([(place,) if number in busy else () for number, place in enumerate(places)])


def next_chains(found_chains, busy, group, places):
    """Return the chains with those of the busy tasks that begin where a group ends."""
    grown = list(found_chains)
    for number in busy:
        if len(grown[number]) == 0:
            grown[number] = found_chains[group[0]] + (places[number],)
    return tuple(grown)


def bound_conditions(plan):
    """Return the list of the conditions that durations are within their bounds."""
    found = []
    for number in range(len(plan)):
        low, high = plan[number][1:]
        factors = [0] * len(plan)
        factors[number] = 1
        found.append((tuple(factors), (-low[0], low[1]), ">="))
        factors[number] = -1
        found.append((tuple(factors), high, ">="))
    return found


def comparison(one, other, many, kind):
    """Return the condition that the sum of a chain less that of another one is of a kind to 0."""
    factors = tuple([one.count(place) - other.count(place) for place in range(many)])
    return (factors, (0, 1), kind)


def group_conditions(busy, group, found_chains, many):
    """Return the list of the conditions on so many durations that of the busy tasks just a group ends next."""
    least = found_chains[group[0]]
    together = [comparison(found_chains[number], least, many, "=") for number in group[1:]]
    others = sorted([number for number in busy if number not in group])
    return together + [comparison(found_chains[number], least, many, ">") for number in others]


class Branch:
    """A beginning of a plan, and a table of the durations with which the plan begins so.

    Each task has a place among the table's durations. These may be more than
    the plan's, and the table may tell of them more than that the plan begins so.
    """

    def __init__(self, plan, places, table, gone, state, sums):
        self.held_plan = plan
        self.places = places
        self.table = table
        self.gone = gone
        self.state = state
        self.sums = sums

    def grown(self, group):
        """Return the branch with another group, whose table is not settled yet."""
        table = self.table.twin()
        for condition in group_conditions(self.state[0], group, self.sums, table.many):
            table.enter(condition)
        state = next_state(self.held_plan, self.state, group)
        sums = next_chains(self.sums, state[0], group, self.places)
        return Branch(self.held_plan, self.places, table, (*self.gone, group), state, sums)

    def all_grown(self):
        """Return the list of the branches with one group more, ascending."""
        return [self.grown(group) for group in groups_of(self.state[0])]

    def is_whole(self):
        """Return whether all tasks have ended."""
        return len(self.state[0]) == 0

    def last_chain(self):
        """Return the chain of the task that ends last, if the branch is whole."""
        return self.sums[self.gone[-1][0]]


def branch_within(plan, places, table):
    """Return the branch ahead of all groups of a plan, with the durations of a table."""
    state = first_state(plan)
    return Branch(plan, places, table, (), state, first_chains(state[0], places))


def first_branch(plan):
    """Return the branch ahead of all groups of a plan, with all its durations."""
    return branch_within(plan, tuple(range(len(plan))), table_of(bound_conditions(plan), len(plan)))


def whole_branches(first, most=None):
    """Return the list of the whole branches that a branch can grow to, with settled tables, ascending.

    If most is not None and there are more than most, TooMany(most) is raised.
    """
    found = []
    waiting = [first]
    while waiting:
        branch = waiting.pop()
        if not branch.table.settle():
            continue
        if branch.is_whole():
            found.append(branch)
        if most is not None and len(found) > most:
            raise TooMany(most)
        # The last one is taken next: so the branches are found in ascending order.
        waiting.extend(branch.all_grown()[::-1])
    return found
