"""Branches: how a plan can begin, group by group, each with the table of the durations that begin so."""

from lesslater.errors import TooMany
from lesslater.runs import taken
from lesslater.solver import table_of


def first_state(plan):
    """Return the pair of the tasks that are running and those that have ended, at moment 0."""
    return (taken(plan, (), ()), ())


def next_state(plan, state, group):
    """Return the state behind another one in which a group ends next."""
    busy, done = state
    left = tuple([number for number in busy if number not in group])
    done = done + group
    return (left + taken(plan, left, done), done)


def groups_of(busy):
    """Return the ascending tuple of the groups that may end next while some tasks are busy."""
    groups = [()]
    for number in sorted(busy):
        groups = groups + [(*group, number) for group in groups]
    return tuple(sorted([group for group in groups if len(group) > 0]))


def first_chains(busy, many):
    """Return for each of so many tasks its chain at moment 0."""
    return tuple([(number,) if number in busy else () for number in range(many)])


def next_chains(found_chains, busy, group):
    """Return the chains with those of the busy tasks that begin where a group ends."""
    grown = list(found_chains)
    for number in busy:
        if len(grown[number]) == 0:
            grown[number] = found_chains[group[0]] + (number,)
    return tuple(grown)


def bound_conditions(plan):
    """Return the list of the conditions that durations are within their bounds."""
    found = []
    for number in range(len(plan)):
        low, high = plan[number][1:]
        factors = [0] * len(plan)
        factors[number] = 1
        found.append((tuple(factors), (-low[0], low[1]), ">="))
        factors[number] = -1
        found.append((tuple(factors), high, ">="))
    return found


def comparison(one, other, many, kind):
    """Return the condition that the sum of a chain less that of another one is of a kind to 0."""
    factors = tuple([one.count(number) - other.count(number) for number in range(many)])
    return (factors, (0, 1), kind)


def group_conditions(busy, group, found_chains, many):
    """Return the list of the conditions on so many durations that of the busy tasks just a group ends next."""
    least = found_chains[group[0]]
    together = [comparison(found_chains[number], least, many, "=") for number in group[1:]]
    others = sorted([number for number in busy if number not in group])
    return together + [comparison(found_chains[number], least, many, ">") for number in others]


class Branch:
    """A beginning of a plan, and a table of the durations with which the plan begins so.

    The table may tell more of the durations than that. states has the state
    behind each group, and ahead of all of them; sums has the tasks' chains.
    """

    def __init__(self, plan, table, gone, states, sums):
        self.held_plan = plan
        self.table = table
        self.gone = gone
        self.states = states
        self.sums = sums

    def grown(self, group):
        """Return the branch with another group, whose table is not settled yet."""
        state = self.states[-1]
        table = self.table.with_all(group_conditions(state[0], group, self.sums, self.table.many))
        behind = next_state(self.held_plan, state, group)
        sums = next_chains(self.sums, behind[0], group)
        return Branch(self.held_plan, table, (*self.gone, group), (*self.states, behind), sums)

    def all_grown(self):
        """Return the list of the branches with one group more, ascending."""
        return [self.grown(group) for group in groups_of(self.states[-1][0])]

    def is_whole(self):
        """Return whether all tasks have ended."""
        return len(self.states[-1][0]) == 0

    def last_chain(self):
        """Return the chain of the task that ends last, if the branch is whole."""
        return self.sums[self.gone[-1][0]]


def branch_within(plan, table):
    """Return the branch ahead of all groups of a plan, with the durations of a table."""
    state = first_state(plan)
    return Branch(plan, table, (), (state,), first_chains(state[0], len(plan)))


def first_branch(plan):
    """Return the branch ahead of all groups of a plan, with all its durations."""
    return branch_within(plan, table_of(bound_conditions(plan), len(plan)))


def whole_branches(first, most=None):
    """Return the list of the whole branches that a branch can grow to, with settled tables, ascending.

    If most is not None and there are more than most, TooMany(most) is raised.
    """
    found = []
    waiting = [first]
    while waiting:
        branch = waiting.pop()
        if not branch.table.settle():
            continue
        if branch.is_whole():
            found.append(branch)
        if most is not None and len(found) > most:
            raise TooMany(most)
        # The last one is taken next: so the branches are found in ascending order.
        waiting.extend(branch.all_grown()[::-1])
    return found
