"""Courses: in which groups tasks can end, and for which durations they do."""

from lesslater.bounds import MAX_COURSES
from lesslater.branches import (
    bound_conditions, first_branch, first_chains, first_state, group_conditions, groups_of, next_chains, next_state,
    whole_branches,
)
from lesslater.plans import is_ascending
from lesslater.solver import solution


def states_along(plan, value):
    """Return the list of the states ahead of all groups of a beginning and behind each, None if value is none."""
    if not isinstance(value, tuple):
        return None
    states = [first_state(plan)]
    for group in value:
        busy = states[-1][0]
        if not is_ascending(group, len(plan)) or len(group) == 0:
            return None
        if not all([number in busy for number in group]):
            return None
        states.append(next_state(plan, states[-1], group))
    return states


def is_beginning(plan, value):
    """Return whether value is a beginning of the plan."""
    return states_along(plan, value) is not None


def running(plan, beginning):
    """Return the ascending tuple of the tasks that are running behind a beginning."""
    return tuple(sorted(states_along(plan, beginning)[-1][0]))


def next_groups(plan, beginning):
    """Return the ascending tuple of the groups that may come next."""
    return groups_of(running(plan, beginning))


def chains_along(beginning, states, many):
    """Return for each of so many tasks its chain, with the states along a beginning."""
    found = first_chains(states[0][0], many)
    for group, behind in zip(beginning, states[1:]):
        found = next_chains(found, behind[0], group)
    return found


def chains(plan, beginning):
    """Return for each task its chain, () if it was not begun."""
    return chains_along(beginning, states_along(plan, beginning), len(plan))


def conditions_along(plan, beginning, states, found_chains):
    """Return the tuple of the conditions of a beginning, with the states along it and the chains behind it."""
    found = bound_conditions(plan)
    for group, ahead in zip(beginning, states):
        found.extend(group_conditions(ahead[0], group, found_chains, len(plan)))
    return tuple(found)


def conditions(plan, beginning):
    """Return the tuple of the conditions that durations meet exactly if their course begins so."""
    states = states_along(plan, beginning)
    return conditions_along(plan, beginning, states, chains_along(beginning, states, len(plan)))


def point(plan, beginning):
    """Return durations whose course begins so, None if there are none."""
    return solution(conditions(plan, beginning), len(plan))


def course_branches(plan):
    """Return the list of the whole branches of a plan, one for each course."""
    return whole_branches(first_branch(plan), MAX_COURSES)


def most_courses(many, workers):
    """Return a number that no plan of so many tasks and workers has more courses than."""
    most = [1]
    for left in range(1, many + 1):
        # At most all workers are busy: one or more of their tasks end next, and behind these fewer tasks are left.
        groups = groups_of(tuple(range(min(left, workers))))
        most.append(sum([most[left - len(group)] for group in groups]))
    return most[many]


def check_courses(plan):
    """Raise TooMany if a plan has too many courses."""
    if most_courses(len(plan), plan.workers) > MAX_COURSES:
        course_branches(plan)


def courses(plan):
    """Return the ascending tuple of all possible whole beginnings."""
    return tuple([branch.gone for branch in course_branches(plan)])
