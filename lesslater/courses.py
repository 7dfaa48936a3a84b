"""Courses: in which groups tasks can end, and for which durations they do."""

from lesslater.bounds import MAX_COURSES
from lesslater.errors import TooMany
from lesslater.plans import is_ascending
from lesslater.runs import taken
from lesslater.solver import solution


def first_state(plan):
    """Return the pair of the tasks that are running and those that have ended, at moment 0."""
    return (taken(plan, (), ()), ())


def next_state(plan, state, group):
    """Return the state behind another one in which a group ends next."""
    busy, done = state
    left = tuple([number for number in busy if number not in group])
    done = done + group
    return (left + taken(plan, left, done), done)


def state_behind(plan, beginning):
    """Return the state behind a beginning."""
    state = first_state(plan)
    for group in beginning:
        state = next_state(plan, state, group)
    return state


def is_beginning(plan, value):
    """Return whether value is a beginning of the plan."""
    if not isinstance(value, tuple):
        return False
    state = first_state(plan)
    for group in value:
        if not is_ascending(group, len(plan)) or len(group) == 0:
            return False
        if not all([number in state[0] for number in group]):
            return False
        state = next_state(plan, state, group)
    return True


def running(plan, beginning):
    """Return the ascending tuple of the tasks that are running behind a beginning."""
    return tuple(sorted(state_behind(plan, beginning)[0]))


def next_groups(plan, beginning):
    """Return the ascending tuple of the groups that may come next."""
    groups = [()]
    for number in running(plan, beginning):
        groups = groups + [(*group, number) for group in groups]
    return tuple(sorted([group for group in groups if len(group) > 0]))


def chains(plan, beginning):
    """Return for each task its chain, () if it was not begun."""
    found = [()] * len(plan)
    state = first_state(plan)
    for number in state[0]:
        found[number] = (number,)
    for group in beginning:
        state = next_state(plan, state, group)
        for number in state[0]:
            if len(found[number]) == 0:
                found[number] = found[group[0]] + (number,)
    return tuple(found)


def bound_conditions(plan):
    """Return the list of the conditions that durations are within their bounds."""
    found = []
    for number in range(len(plan)):
        low, high = plan[number][1:]
        factors = [0] * len(plan)
        factors[number] = 1
        found.append((tuple(factors), (-low[0], low[1]), ">="))
        factors[number] = -1
        found.append((tuple(factors), high, ">="))
    return found


def comparison(one, other, many, kind):
    """Return the condition that the sum of a chain less that of another one is of a kind to 0."""
    factors = tuple([one.count(number) - other.count(number) for number in range(many)])
    return (factors, (0, 1), kind)


def group_conditions(busy, group, found_chains):
    """Return the list of the conditions that of the busy tasks just a group ends next."""
    many = len(found_chains)
    least = found_chains[group[0]]
    together = [comparison(found_chains[number], least, many, "=") for number in group[1:]]
    others = sorted([number for number in busy if number not in group])
    return together + [comparison(found_chains[number], least, many, ">") for number in others]


def conditions(plan, beginning):
    """Return the tuple of the conditions that durations meet exactly if their course begins so."""
    found = bound_conditions(plan)
    found_chains = chains(plan, beginning)
    state = first_state(plan)
    for group in beginning:
        found.extend(group_conditions(state[0], group, found_chains))
        state = next_state(plan, state, group)
    return tuple(found)


def point(plan, beginning):
    """Return durations whose course begins so, None if there are none."""
    return solution(conditions(plan, beginning), len(plan))


def courses(plan):
    """Return the ascending tuple of all possible whole beginnings."""
    found = []
    waiting = [()]
    while waiting:
        beginning = waiting.pop()
        if point(plan, beginning) is None:
            continue
        groups = next_groups(plan, beginning)
        if len(groups) == 0:
            found.append(beginning)
        if len(found) > MAX_COURSES:
            raise TooMany(MAX_COURSES)
        # The last one is taken next: so the courses are found in ascending order.
        waiting.extend([(*beginning, group) for group in groups[::-1]])
    return tuple(found)
