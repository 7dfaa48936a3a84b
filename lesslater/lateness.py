"""How late and how early the whole can end, and papers that it ends by a day."""

from lesslater.branches import first_branch, first_state, groups_of, next_state
from lesslater.courses import chains_along, conditions_along, course_branches, states_along
from lesslater.fractions import added, fraction, is_below, is_whole_number
from lesslater.solver import solution_with


def counted(chain, many):
    """Return for each of so many durations how often it is in a chain."""
    return tuple([chain.count(place) for place in range(many)])


def behind_day(chain, many, day):
    """Return the condition on so many durations that the sum of a chain is above a day."""
    return (counted(chain, many), (-day[0], day[1]), ">")


def farthest(plan, sign):
    """Return the least fraction that no whole end, times a sign, is above, and durations that meet it, or None."""
    best, found = None, None
    for branch in course_branches(plan):
        factors = [sign * factor for factor in counted(branch.last_chain(), len(plan))]
        end, is_met = branch.table.greatest(factors)
        if best is None or is_below(best, end):
            best, found = end, None
        if is_met and found is None and end == best:
            found = branch.table.found_durations()
    return (best, found)


def latest(plan):
    """Return the least fraction that no whole end is above, and durations with this end, or None."""
    return farthest(plan, 1)


def earliest(plan):
    """Return the greatest fraction that no whole end is below, and durations with this end, or None."""
    end, found = farthest(plan, -1)
    return ((-end[0], end[1]), found)


def beyond(plan, day):
    """Return durations with which the whole ends behind a day, None if there are none."""
    for branch in course_branches(plan):
        found = solution_with(branch.table, behind_day(branch.last_chain(), len(plan), day))
        if found is not None:
            return found
    return None


def is_by(plan, day):
    """Return whether the whole ends by a day with all durations."""
    return beyond(plan, day) is None


def paper(plan, day):
    """Return a paper for a day, None if the whole can end behind it."""
    if not is_by(plan, day):
        return None
    claims = []
    waiting = [first_branch(plan)]
    while waiting:
        branch = waiting.pop()
        if branch.is_whole():
            branch.table.enter(behind_day(branch.last_chain(), len(plan), day))
        if branch.table.settle():
            waiting.extend(branch.all_grown()[::-1])
        else:
            claims.append((branch.gone, branch.table.clash()))
    return tuple(claims)


def claimed_conditions(plan, day, beginning, states):
    """Return the tuple of the conditions that a claim has weights for, with the states along its beginning."""
    found_chains = chains_along(beginning, states, len(plan))
    found = conditions_along(plan, beginning, states, found_chains)
    if len(states[-1][0]) > 0:
        return found
    return (*found, behind_day(found_chains[beginning[-1][0]], len(plan), day))


def are_weights(value, found_conditions):
    """Return whether value has a weight for each of some conditions."""
    if not isinstance(value, tuple) or len(value) != len(found_conditions):
        return False
    for weight, (factors, constant, kind) in zip(value, found_conditions):
        if not is_whole_number(weight) or (weight < 0 and kind != "="):
            return False
    return True


def is_clash(weights, found_conditions, many):
    """Return whether weights tell that no durations meet all of some conditions on so many."""
    sums = [0] * many
    total = (0, 1)
    is_above = False
    for weight, (factors, constant, kind) in zip(weights, found_conditions):
        if weight != 0:
            sums = [part + weight * factor for part, factor in zip(sums, factors)]
            total = added(total, fraction(weight * constant[0], constant[1]))
            is_above = is_above or (weight > 0 and kind == ">")
    return sums == [0] * many and (total[0] < 0 or (total[0] == 0 and is_above))


def is_claim(plan, day, value):
    """Return whether value is a right claim for a day."""
    if not isinstance(value, tuple) or len(value) != 2:
        return False
    beginning, weights = value
    states = states_along(plan, beginning)
    if states is None:
        return False
    found_conditions = claimed_conditions(plan, day, beginning, states)
    return are_weights(weights, found_conditions) and is_clash(weights, found_conditions, len(plan))


def all_start_with(plan, beginnings):
    """Return whether each whole beginning of a plan starts with one of the keys of beginnings."""
    waiting = [((), first_state(plan))]
    while waiting:
        beginning, state = waiting.pop()
        if beginning not in beginnings:
            groups = groups_of(state[0])
            if len(groups) == 0:
                return False
            waiting.extend([((*beginning, group), next_state(plan, state, group)) for group in groups])
    return True


def paper_holds(plan, day, value):
    """Return whether value is a paper for a day."""
    if not isinstance(value, tuple) or not all([is_claim(plan, day, claim) for claim in value]):
        return False
    beginnings = {claim[0]: True for claim in value}
    return len(beginnings) == len(value) and all_start_with(plan, beginnings)
