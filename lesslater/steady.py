"""Whether anything shorter makes the whole end later, and which pairs keep that from happening."""

from lesslater.bounds import MAX_APART, MAX_PAIRS
from lesslater.courses import check_courses
from lesslater.errors import BadMost, TooMany
from lesslater.fractions import is_below, is_fraction, is_whole_number, middle
from lesslater.jumps import first_jump
from lesslater.plans import is_number
from lesslater.runs import durations_error, whole_end


def replaced(durations, number, other):
    """Return durations with another one in the place of one."""
    return durations[:number] + (other,) + durations[number + 1:]


def less_holds(plan, value):
    """Return whether value is durations, a task and less for it with which the whole ends later."""
    if not isinstance(value, tuple) or len(value) != 3:
        return False
    durations, number, less = value
    if durations_error(plan, durations) is not None or not is_number(number, len(plan)):
        return False
    if not is_fraction(less) or not is_below(less, durations[number]) or is_below(less, plan[number][1]):
        return False
    return is_below(whole_end(plan, durations), whole_end(plan, replaced(durations, number, less)))


def triple_of(durations, number, other):
    """Return the triple of the longer durations, the task and its lesser one, of durations and another one of it."""
    if is_below(other, durations[number]):
        return (durations, number, other)
    return (replaced(durations, number, other), number, durations[number])


def shorter_later(plan):
    """Return durations, a task and less for it with which the whole ends later, None if there is no such triple."""
    check_courses(plan)
    jump = first_jump(plan)
    if jump is None:
        return None
    durations, number, other = jump
    # The step must be short enough: so it is halved until it is.
    while not less_holds(plan, triple_of(durations, number, other)):
        other = middle(durations[number], other)
    return triple_of(durations, number, other)


def is_steady(plan):
    """Return whether nothing shorter makes the whole end later."""
    check_courses(plan)
    return first_jump(plan) is None


def is_steady_with(plan, pair):
    """Return whether a plan with another pair is steady, however many courses it has then."""
    return first_jump(plan.with_pair(pair[0], pair[1])) is None


def fewest_pairs(plan, most):
    """Return the first of the fewest pairs, at most most, with which a plan is steady, None if these are not enough."""
    if not is_whole_number(most) or not 0 <= most <= MAX_PAIRS:
        raise BadMost(most)
    apart = plan.apart()
    if len(apart) > MAX_APART:
        raise TooMany(MAX_APART)
    if is_steady(plan):
        return ()
    if most == 0:
        return None
    # A pair of tasks that are not apart makes a ring, or changes no run.
    turned = [(other, one) for one, other in apart]
    for pair in sorted([*apart, *turned]):
        if is_steady_with(plan, pair):
            return (pair,)
    return None
