"""Whether anything shorter makes the whole end later, and which pairs keep that from happening.

Within a course the end of the whole is the sum of a chain, which never grows
where a duration shrinks. So, if less makes the whole later, then the end jumps
somewhere on the way from a duration to the lesser one: at durations with which
tasks end together of which some have the task in their chains and some do not.
Just beside these durations the run begins alike, up to this group, whose two
parts end one behind the other. It is enough to look there.
"""

from lesslater.bounds import MAX_APART, MAX_PAIRS
from lesslater.branches import bound_conditions, branch_within, comparison, first_branch, whole_branches
from lesslater.courses import conditions, course_branches
from lesslater.errors import BadMost, TooMany
from lesslater.fractions import is_below, is_fraction, is_whole_number
from lesslater.plans import is_number
from lesslater.runs import durations_error, whole_end
from lesslater.solver import solution_with, table_of


def replaced(durations, number, other):
    """Return durations with another one in the place of one."""
    return durations[:number] + (other,) + durations[number + 1:]


def above(one, other, many, sign):
    """Return the condition on so many durations that a chain's sum is above another one's, below it if sign is -1."""
    if sign == 1:
        return comparison(one, other, many, ">")
    return comparison(other, one, many, ">")


def parted(branch, number):
    """Return how a branch begins up to a group of which just some chains have a task, and both parts of the group.

    The part with the task in its chains stands first; None if there is no such group.
    """
    for at, group in enumerate(branch.gone):
        inside = tuple([member for member in group if number in branch.sums[member]])
        outside = tuple([member for member in group if member not in inside])
        if len(inside) > 0 and len(outside) > 0:
            return (branch.gone[:at], inside, outside)
    return None


def table_beside(plan, course, number, sign):
    """Return the table of a course's durations, and behind them of another one of a task, more or less by sign."""
    many = len(plan)
    found = [((*factors, 0), constant, kind) for factors, constant, kind in conditions(plan, course)]
    for factors, constant, kind in bound_conditions(plan)[2 * number:2 * number + 2]:
        found.append(((0,) * many + (factors[number],), constant, kind))
    found.append(above((many,), (number,), many + 1, sign))
    return table_of(found, many + 1)


def branches_beside(plan, branch, number, sign):
    """Return the list of the whole branches just beside one, with more or less of a task by sign."""
    parts = parted(branch, number)
    if parts is None:
        return []
    begun, inside, outside = parts
    both = (inside, outside) if sign == -1 else (outside, inside)
    places = replaced(tuple(range(len(plan))), number, len(plan))
    other = branch_within(plan, places, table_beside(plan, branch.gone, number, sign))
    for group in (*begun, *both):
        other = other.grown(group)
    return whole_branches(other)


def triple_of(found, number, sign):
    """Return the triple of the longer durations, the task and its lesser one, of durations and one behind them."""
    durations, beside = found[:-1], found[-1]
    if sign == -1:
        return (durations, number, beside)
    return (replaced(durations, number, beside), number, durations[number])


def jump_beside(plan, branch, number, sign):
    """Return a triple that makes later between a branch and those just beside it, None if there is none."""
    for other in branches_beside(plan, branch, number, sign):
        is_later = above(branch.last_chain(), other.last_chain(), len(plan) + 1, sign)
        found = solution_with(other.table, is_later)
        if found is not None:
            return triple_of(found, number, sign)
    return None


def first_jump(plan, branches):
    """Return a triple that makes later, None if there is none; branches are all whole ones of the plan."""
    for branch in branches:
        for number in range(len(plan)):
            for sign in (-1, 1):
                found = jump_beside(plan, branch, number, sign)
                if found is not None:
                    return found
    return None


def shorter_later(plan):
    """Return durations, a task and less for it with which the whole ends later, None if there is no such triple."""
    return first_jump(plan, course_branches(plan))


def less_holds(plan, value):
    """Return whether value is durations, a task and less for it with which the whole ends later."""
    if not isinstance(value, tuple) or len(value) != 3:
        return False
    durations, number, less = value
    if durations_error(plan, durations) is not None or not is_number(number, len(plan)):
        return False
    if not is_fraction(less) or not is_below(less, durations[number]) or is_below(less, plan[number][1]):
        return False
    return is_below(whole_end(plan, durations), whole_end(plan, replaced(durations, number, less)))


def is_steady(plan):
    """Return whether nothing shorter makes the whole end later."""
    return shorter_later(plan) is None


def is_steady_with(plan, pair):
    """Return whether a plan with another pair is steady, however many courses it has then."""
    other = plan.with_pair(pair[0], pair[1])
    return first_jump(other, whole_branches(first_branch(other))) is None


def fewest_pairs(plan, most):
    """Return the first of the fewest pairs, at most most, with which a plan is steady, None if these are not enough."""
    if not is_whole_number(most) or not 0 <= most <= MAX_PAIRS:
        raise BadMost(most)
    apart = plan.apart()
    if len(apart) > MAX_APART:
        raise TooMany(MAX_APART)
    if is_steady(plan):
        return ()
    if most == 0:
        return None
    # A pair of tasks that are not apart makes a ring, or changes no run.
    turned = [(other, one) for one, other in apart]
    for pair in sorted([*apart, *turned]):
        if is_steady_with(plan, pair):
            return (pair,)
    return None
