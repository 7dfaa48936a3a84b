"""Two plans with the same durations: whether one can end later, and whether they do all alike."""

from lesslater.branches import branch_within, comparison, whole_branches
from lesslater.courses import check_courses, course_branches
from lesslater.errors import NotBeside
from lesslater.solver import solution_with


def check_beside(one, other):
    """Raise NotBeside if two plans do not have the same durations."""
    if [task[1:] for task in one.tasks] != [task[1:] for task in other.tasks]:
        raise NotBeside()


def branch_pairs(one, other):
    """Return the list of the pairs of whole branches that two plans have with the same durations.

    The second one's table tells of the durations that have both.
    """
    check_beside(one, other)
    mine = course_branches(one)
    check_courses(other)
    found = []
    for branch in mine:
        beside = whole_branches(branch_within(other, branch.table))
        found.extend([(branch, yours) for yours in beside])
    return found


def later(one, other):
    """Return durations with which the whole ends later in other than in one, None if there are none."""
    for mine, yours in branch_pairs(one, other):
        is_later = comparison(yours.last_chain(), mine.last_chain(), len(one), ">")
        found = solution_with(yours.table, is_later)
        if found is not None:
            return found
    return None


def apart_for(mine, yours, number):
    """Return durations of a pair of branches with which a task has two ends, None if there are none."""
    many = yours.table.many
    chain, other = mine.sums[number], yours.sums[number]
    found = solution_with(yours.table, comparison(chain, other, many, ">"))
    if found is None:
        found = solution_with(yours.table, comparison(other, chain, many, ">"))
    return found


def apart_at(one, other):
    """Return durations with which some task has another end in other than in one, None if there are none."""
    for mine, yours in branch_pairs(one, other):
        for number in range(len(one)):
            found = apart_for(mine, yours, number)
            if found is not None:
                return found
    return None


def is_alike(one, other):
    """Return whether each task has the same end in both plans, with all durations."""
    return apart_at(one, other) is None
