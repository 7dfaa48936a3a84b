"""Courses: in which groups tasks can end, and for which durations they do."""

from lesslater.bounds import MAX_COURSES
from lesslater.branches import (
    bound_conditions, first_branch, first_chains, first_state, group_conditions, groups_of, next_chains, next_state,
    whole_branches,
)
from lesslater.plans import is_ascending
from lesslater.solver import solution


def state_behind(plan, beginning):
    """Return the state behind a beginning."""
    state = first_state(plan)
    for group in beginning:
        state = next_state(plan, state, group)
    return state


def is_beginning(plan, value):
    """Return whether value is a beginning of the plan."""
    if not isinstance(value, tuple):
        return False
    state = first_state(plan)
    for group in value:
        if not is_ascending(group, len(plan)) or len(group) == 0:
            return False
        if not all([number in state[0] for number in group]):
            return False
        state = next_state(plan, state, group)
    return True


def running(plan, beginning):
    """Return the ascending tuple of the tasks that are running behind a beginning."""
    return tuple(sorted(state_behind(plan, beginning)[0]))


def next_groups(plan, beginning):
    """Return the ascending tuple of the groups that may come next."""
    return groups_of(running(plan, beginning))


def chains(plan, beginning):
    """Return for each task its chain, () if it was not begun."""
    places = tuple(range(len(plan)))
    state = first_state(plan)
    found = first_chains(state[0], places)
    for group in beginning:
        state = next_state(plan, state, group)
        found = next_chains(found, state[0], group, places)
    return found


def conditions(plan, beginning):
    """Return the tuple of the conditions that durations meet exactly if their course begins so."""
    found = bound_conditions(plan)
    found_chains = chains(plan, beginning)
    state = first_state(plan)
    for group in beginning:
        found.extend(group_conditions(state[0], group, found_chains, len(plan)))
        state = next_state(plan, state, group)
    return tuple(found)


def point(plan, beginning):
    """Return durations whose course begins so, None if there are none."""
    return solution(conditions(plan, beginning), len(plan))


def course_branches(plan):
    """Return the list of the whole branches of a plan, one for each course."""
    return whole_branches(first_branch(plan), MAX_COURSES)


def courses(plan):
    """Return the ascending tuple of all possible whole beginnings."""
    return tuple([branch.gone for branch in course_branches(plan)])
