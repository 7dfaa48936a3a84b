"""Jumps: durations just beside which the whole ends later with less of a task, or sooner with more.

Within a course the end of the whole is the sum of a chain, which never grows
where a duration shrinks. So, if less makes the whole later, then the end jumps
somewhere on the way from a duration to the lesser one, where two courses meet:
it is enough to look at the durations of each course and a least step beside
them, which is less than every number above 0.

With such a step all moments stay where they are, but the tasks of a group end
one behind the other if the ends of some move with the step and others do not.
If the same tasks are running behind the group all the same, then all goes on as
in the course. If others are, then the run goes on by itself: it is a side of
the course, and its end is compared with that of the course.

A mover is a triple (number, sign, moved): a task whose duration is a step less
(-1) or more (1), and the tasks whose ends move with it, if they have begun.
"""

from lesslater.branches import (
    bound_conditions, comparison, first_branch, first_chains, group_conditions, groups_of, next_chains, next_state,
)
from lesslater.solver import solution_with


def movers_of(plan):
    """Return the list of the movers of a plan at moment 0."""
    numbers = [number for number in range(len(plan)) if plan[number][1] != plan[number][2]]
    return [(number, sign, (number,)) for number in numbers for sign in (-1, 1)]


def moved_on(plan, state, group, mover):
    """Return the state behind a group and the mover there, of those ahead of it."""
    number, sign, moved = mover
    first = tuple([member for member in group if (member in moved) == (sign == -1)])
    second = tuple([member for member in group if member not in first])
    for part in (first, second):
        if len(part) > 0:
            busy = state[0]
            state = next_state(plan, state, part)
            if part[0] in moved:
                moved = moved + tuple([begun for begun in state[0] if begun not in busy])
    return (state, (number, sign, moved))


class Side:
    """A run a step beside durations of a table, for some movers; sums has its tasks' chains, last that of its end."""

    def __init__(self, plan, table, state, sums, last, movers):
        self.held_plan = plan
        self.table = table
        self.state = state
        self.sums = sums
        self.last = last
        self.movers = movers

    def parted(self, group, table):
        """Return the list of the sides behind a group that ends next with all durations of a table."""
        states = {}
        several = {}
        for mover in self.movers:
            state, other = moved_on(self.held_plan, self.state, group, mover)
            busy = tuple(sorted(state[0]))
            states[busy] = state
            several.setdefault(busy, []).append(other)
        last = self.sums[group[0]]
        return [
            Side(self.held_plan, table, states[busy], next_chains(self.sums, busy, group), last, several[busy])
            for busy in states
        ]

    def all_grown(self):
        """Return the list of the sides with one group more, those that some durations have."""
        found = []
        for group in groups_of(self.state[0]):
            table = self.table.with_all(group_conditions(self.state[0], group, self.sums, self.table.many))
            if table.settle():
                found.extend(self.parted(group, table))
        return found


def first_side(branch):
    """Return the side of a whole branch that has not parted from it, ahead of all groups."""
    plan, state = branch.held_plan, branch.states[0]
    return Side(plan, branch.table, state, first_chains(state[0], len(plan)), (), movers_of(plan))


def room_for(plan, number, sign):
    """Return the condition that the duration of a task can be a step less or more."""
    factors, constant, kind = bound_conditions(plan)[2 * number if sign == -1 else 2 * number + 1]
    return (factors, constant, ">")


def jump_between(chain, side):
    """Return a jump from an end that a chain tells to that of a side, None if there is none."""
    plan = side.held_plan
    for number, sign, moved in side.movers:
        late, soon = (side.last, chain) if sign == -1 else (chain, side.last)
        is_later = comparison(late, soon, len(plan), ">")
        found = solution_with(side.table.with_all([room_for(plan, number, sign)]), is_later)
        if found is not None:
            return (found, number, plan[number][1 if sign == -1 else 2])
    return None


def jump_to(side, chain):
    """Return a jump from an end that a chain tells to that of what a side can grow to, None if there is none."""
    waiting = [side]
    while waiting:
        grown = waiting.pop()
        if len(grown.state[0]) == 0:
            found = jump_between(chain, grown)
            if found is not None:
                return found
        waiting.extend(grown.all_grown())
    return None


def can_part(plan, group, ahead, behind):
    """Return whether a side can part from a run at a group, with the states ahead of it and behind it.

    A task begins behind the first part of the group, then, that does not begin
    behind all of it: all places that are free there go to tasks that stand ahead
    of this one in the list. Fewer of these were ready behind the first part than
    places were free: so more than the second part has, at least two, waited for it.
    """
    if len(group) == 1 or len(behind[0]) + len(behind[1]) == len(plan):
        return False
    begun = [number for number in behind[0] if number not in ahead[0]]
    waited = [number for number in begun if any([before in group for before in plan[number][0]])]
    return len(waited) > 1


def can_part_yet(plan, state):
    """Return whether a side can part from a run at any group behind a state."""
    # Two tasks that wait, and the one that begins in their place, have not begun.
    return len(state[0]) + len(state[1]) + 3 <= len(plan)


def can_jump(branch):
    """Return whether a side can part from any course that a branch grows to."""
    plan, states = branch.held_plan, branch.states
    if can_part_yet(plan, states[-1]):
        return True
    return any([
        can_part(plan, group, ahead, behind) for group, ahead, behind in zip(branch.gone, states, states[1:])
    ])


def is_along(side, state):
    """Return whether a side has not parted from a run that is in a state."""
    return sorted(side.state[0]) == sorted(state[0])


def jump_beside(branch):
    """Return a jump from the course of a whole branch to a side of it, None if there is none."""
    side = first_side(branch)
    for group, behind in zip(branch.gone, branch.states[1:]):
        sides = side.parted(group, branch.table)
        for other in sides:
            found = None if is_along(other, behind) else jump_to(other, branch.last_chain())
            if found is not None:
                return found
        along = [other for other in sides if is_along(other, behind)]
        if len(along) == 0 or not can_part_yet(branch.held_plan, behind):
            return None
        side = along[0]
    return None


def first_jump(plan):
    """Return a jump, None if there is none.

    It is a triple of durations, the number of a task, and the bound of it
    towards which every step that is short enough makes the end jump.
    """
    waiting = [first_branch(plan)]
    while waiting:
        branch = waiting.pop()
        if not can_jump(branch) or not branch.table.settle():
            continue
        found = jump_beside(branch) if branch.is_whole() else None
        if found is not None:
            return found
        waiting.extend(branch.all_grown()[::-1])
    return None
